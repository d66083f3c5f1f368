/- Texts joined: Math1, Math2, Math3, Math5, Math5b, Math5c, Math5d, Math5e, Builder, Kit, Math1b, Ref01. -/
import Derived.Lib.RuneBytes
import GoSem.Core.Utf8
import Derived.Lib.Bytealg
import Derived.Lib.IndexLaws
import Derived.Lib.Strings
import Derived.Lib.CutLaws
import Derived.Shelf.Strings.BuilderK
import Derived.Shelf.Strings.BuilderRune
import Derived.Shelf.Strings.Prefix
import Derived.WalkKit
import Derived.Test.YteefodibpjgicaaGreatRows
import Derived.WalkSpells
import Derived.WalkLawsBesides
import Derived.Lib.ConvBytes
import Derived.Lib.UnsafeStr
import Derived.Lib.OthersKept
import Derived.Lib.Hide
import Derived.WalkSmall
import Derived.Laws.AppendOwnNone
import Derived.BigCall
import Derived.Deep.QuietTactic
import Derived.BigQuiet
import Derived.Deep.DeepCutAuto
namespace Go.Proofs.YteefodibpjgicaaGreat
namespace M1
def cont (l : List UInt8) (k : Nat) : Bool := decide (k < l.length) && (l.getD k 0).toNat / 64 == 2
def dec (l : List UInt8) : Nat × Nat :=
  if (l.getD 0 0).toNat < 0x80 then ((l.getD 0 0).toNat, 1)
  else if (l.getD 0 0).toNat / 32 == 6 && cont l 1 then
    if ((l.getD 0 0).toNat % 32) * 64 + (l.getD 1 0).toNat % 64 ≥ 0x80 then (((l.getD 0 0).toNat % 32) * 64 + (l.getD 1 0).toNat % 64, 2) else (65533, 1)
  else if (l.getD 0 0).toNat / 16 == 14 && cont l 1 && cont l 2 then
    if ((l.getD 0 0).toNat % 16) * 4096 + ((l.getD 1 0).toNat % 64) * 64 + (l.getD 2 0).toNat % 64 ≥ 0x800 && Utf8.valid (((l.getD 0 0).toNat % 16) * 4096 + ((l.getD 1 0).toNat % 64) * 64 + (l.getD 2 0).toNat % 64 : Nat) then
      (((l.getD 0 0).toNat % 16) * 4096 + ((l.getD 1 0).toNat % 64) * 64 + (l.getD 2 0).toNat % 64, 3) else (65533, 1)
  else if (l.getD 0 0).toNat / 8 == 30 && cont l 1 && cont l 2 && cont l 3 then
    if ((l.getD 0 0).toNat % 8) * 262144 + ((l.getD 1 0).toNat % 64) * 4096 + ((l.getD 2 0).toNat % 64) * 64 + (l.getD 3 0).toNat % 64 ≥ 0x10000 && Utf8.valid (((l.getD 0 0).toNat % 8) * 262144 + ((l.getD 1 0).toNat % 64) * 4096 + ((l.getD 2 0).toNat % 64) * 64 + (l.getD 3 0).toNat % 64 : Nat) then
      (((l.getD 0 0).toNat % 8) * 262144 + ((l.getD 1 0).toNat % 64) * 4096 + ((l.getD 2 0).toNat % 64) * 64 + (l.getD 3 0).toNat % 64, 4) else (65533, 1)
  else (65533, 1)
theorem get!_drop (s : ByteArray) (i k : Nat) : s.get! (i + k) = (s.data.toList.drop i).getD k 0 := by
  show s.data[i + k]! = _
  rw [Array.getElem!_eq_getD, Array.getD_eq_getD_getElem?, List.getD_eq_getElem?_getD, List.getElem?_drop, Array.getElem?_toList]
  rfl
theorem cont_drop (s : ByteArray) (i k : Nat) : cont (s.data.toList.drop i) k = (decide (i + k < s.size) && (s.get! (i + k)).toNat / 64 == 2) := by
  unfold cont
  rw [get!_drop]
  congr 1
  have : s.size = s.data.toList.length := rfl
  rw [List.length_drop, this]
  apply decide_eq_decide.2
  omega
theorem decode_eq (s : ByteArray) (i : Nat) : Utf8.decode s i = dec (s.data.toList.drop i) := by
  have e := fun k => get!_drop s i k
  have c := fun k => cont_drop s i k
  simp only [Utf8.decode, dec, ← e, c, Utf8.runeError]
abbrev enc (r : Int) : List UInt8 := Lib.encodeRune r
def okRune (r : Int) : Prop := (0 ≤ r ∧ r < 55296) ∨ (57343 < r ∧ r ≤ 1114111)
instance (r : Int) : Decidable (okRune r) := by unfold okRune; infer_instance
theorem toNat_u8 (n : Nat) (h : n < 256) : (n.toUInt8).toNat = n := by
  simp [Nat.mod_eq_of_lt h]
theorem enc1 (n : Nat) (h : n ≤ 127) : enc n = [n.toUInt8] := by
  simp only [enc, Lib.encodeRune, Lib.encodeRuneZ_one (r := n) (by omega) (by omega)]; rfl
theorem enc2 (n : Nat) (h : 128 ≤ n) (h' : n ≤ 2047) : enc n = [(192 + n / 64).toUInt8, (128 + n % 64).toUInt8] := by
  simp only [enc, Lib.encodeRune, Lib.encodeRuneZ_two (r := n) (by omega) (by omega)]
  simp only [List.map_cons, List.map_nil]
  rw [show ((192 : Int) + (n : Int) / 64).toNat = 192 + n / 64 by omega, show ((128 : Int) + (n : Int) % 64).toNat = 128 + n % 64 by omega]
theorem enc3 (n : Nat) (h : (2048 ≤ n ∧ n < 55296) ∨ (57343 < n ∧ n ≤ 65535)) : enc n = [(224 + n / 4096).toUInt8, (128 + n / 64 % 64).toUInt8, (128 + n % 64).toUInt8] := by
  simp only [enc, Lib.encodeRune, Lib.encodeRuneZ_three (r := n) (by omega)]
  simp only [List.map_cons, List.map_nil]
  rw [show ((224 : Int) + (n : Int) / 4096).toNat = 224 + n / 4096 by omega, show ((128 : Int) + (n : Int) / 64 % 64).toNat = 128 + n / 64 % 64 by omega, show ((128 : Int) + (n : Int) % 64).toNat = 128 + n % 64 by omega]
theorem enc4 (n : Nat) (h : 65536 ≤ n) (h' : n ≤ 1114111) : enc n = [(240 + n / 262144).toUInt8, (128 + n / 4096 % 64).toUInt8, (128 + n / 64 % 64).toUInt8, (128 + n % 64).toUInt8] := by
  simp only [enc, Lib.encodeRune, Lib.encodeRuneZ_four (r := n) (by omega) (by omega)]
  simp only [List.map_cons, List.map_nil]
  rw [show ((240 : Int) + (n : Int) / 262144).toNat = 240 + n / 262144 by omega, show ((128 : Int) + (n : Int) / 4096 % 64).toNat = 128 + n / 4096 % 64 by omega, show ((128 : Int) + (n : Int) / 64 % 64).toNat = 128 + n / 64 % 64 by omega, show ((128 : Int) + (n : Int) % 64).toNat = 128 + n % 64 by omega]
theorem valid_iff (r : Int) : Utf8.valid r = decide (okRune r) := by
  rw [Bool.eq_iff_iff, decide_eq_true_iff]
  unfold Utf8.valid okRune
  simp
  omega
theorem dec_enc (n : Nat) (h : okRune n) (t : List UInt8) : dec (enc n ++ t) = (n, (enc n).length) := by
  have hn : n ≤ 127 ∨ (128 ≤ n ∧ n ≤ 2047) ∨ ((2048 ≤ n ∧ n < 55296) ∨ (57343 < n ∧ n ≤ 65535)) ∨ (65536 ≤ n ∧ n ≤ 1114111) := by unfold okRune at h; omega
  rcases hn with h1 | ⟨h1, h2⟩ | h1 | ⟨h1, h2⟩
  · rw [enc1 n h1]
    have e := toNat_u8 n (by omega)
    simp only [dec, List.cons_append, List.getD_cons_zero, e]
    rw [if_pos (by omega)]; rfl
  · rw [enc2 n h1 h2]
    have e1 := toNat_u8 (192 + n / 64) (by omega)
    have e2 := toNat_u8 (128 + n % 64) (by omega)
    simp only [dec, cont, List.cons_append, List.nil_append, List.getD_cons_zero, List.getD_cons_succ, List.length_cons, e1, e2]
    rw [if_neg (by omega), if_pos (by simp; omega), if_pos (by omega)]
    simp; omega
  · rw [enc3 n h1]
    have e1 := toNat_u8 (224 + n / 4096) (by omega)
    have e2 := toNat_u8 (128 + n / 64 % 64) (by omega)
    have e3 := toNat_u8 (128 + n % 64) (by omega)
    have a : (((224 + n / 4096) % 16) * 4096 + ((128 + n / 64 % 64) % 64) * 64 + (128 + n % 64) % 64) = n := by omega
    simp only [dec, cont, List.cons_append, List.nil_append, List.getD_cons_zero, List.getD_cons_succ, List.length_cons, e1, e2, e3, a, valid_iff]
    rw [if_neg (by omega), if_neg (by simp; omega), if_pos (by simp; omega), if_pos (by simp [h]; omega)]
    rfl
  · rw [enc4 n h1 h2]
    have e1 := toNat_u8 (240 + n / 262144) (by omega)
    have e2 := toNat_u8 (128 + n / 4096 % 64) (by omega)
    have e3 := toNat_u8 (128 + n / 64 % 64) (by omega)
    have e4 := toNat_u8 (128 + n % 64) (by omega)
    have a : (((240 + n / 262144) % 8) * 262144 + ((128 + n / 4096 % 64) % 64) * 4096 + ((128 + n / 64 % 64) % 64) * 64 + (128 + n % 64) % 64) = n := by omega
    simp only [dec, cont, List.cons_append, List.nil_append, List.getD_cons_zero, List.getD_cons_succ, List.length_cons, e1, e2, e3, e4, a, valid_iff]
    rw [if_neg (by omega), if_neg (by simp; omega), if_neg (by simp; omega), if_pos (by simp; omega), if_pos (by simp [h]; omega)]
    rfl
theorem u8_of_toNat (c : UInt8) (n : Nat) (h : c.toNat = n) : n.toUInt8 = c := by subst h; simp
theorem dec_cases (l : List UInt8) (hl : l ≠ []) :
    (okRune ((dec l).1 : Nat) ∧ l = enc ((dec l).1 : Nat) ++ l.drop (dec l).2 ∧ (dec l).2 = (enc ((dec l).1 : Nat)).length) ∨
    (dec l = (65533, 1) ∧ ∀ t, l ≠ [239, 191, 189] ++ t) := by
  obtain ⟨a, l1, rfl⟩ := List.exists_cons_of_ne_nil hl
  have ha := a.toNat_lt
  by_cases c1 : a.toNat < 128
  · left
    have e : dec (a :: l1) = (a.toNat, 1) := by simp only [dec, List.getD_cons_zero]; rw [if_pos c1]
    rw [e]
    refine ⟨by unfold okRune; omega, ?_, ?_⟩
    · rw [enc1 _ (by omega), u8_of_toNat a _ rfl]; rfl
    · rw [enc1 _ (by omega)]; rfl
  by_cases c2 : a.toNat / 32 = 6
  · cases l1 with
    | nil =>
      right
      refine ⟨?_, by simp⟩
      simp only [dec, cont, List.getD_cons_zero, List.length_cons, List.length_nil]
      rw [if_neg c1, if_neg (by simp), if_neg (by simp), if_neg (by simp)]
    | cons b l2 =>
      have hb := b.toNat_lt
      by_cases d : b.toNat / 64 = 2 ∧ (a.toNat % 32) * 64 + b.toNat % 64 ≥ 128
      · left
        have e : dec (a :: b :: l2) = ((a.toNat % 32) * 64 + b.toNat % 64, 2) := by
          simp only [dec, cont, List.getD_cons_zero, List.getD_cons_succ, List.length_cons]
          rw [if_neg c1, if_pos (by simp; omega), if_pos d.2]
        rw [e]
        have f := enc2 ((a.toNat % 32) * 64 + b.toNat % 64) (by omega) (by omega)
        rw [u8_of_toNat a _ (by omega), u8_of_toNat b _ (by omega)] at f
        exact ⟨by unfold okRune; omega, by rw [f]; rfl, by rw [f]; rfl⟩
      · right
        refine ⟨?_, ?_⟩
        · simp only [dec, cont, List.getD_cons_zero, List.getD_cons_succ, List.length_cons]
          rw [if_neg c1]
          by_cases d1 : b.toNat / 64 = 2
          · rw [if_pos (by simp; omega), if_neg (by omega)]
          · rw [if_neg (by simp; omega), if_neg (by simp; omega), if_neg (by simp; omega)]
        · intro t e
          simp only [List.cons_append, List.cons.injEq] at e
          rw [e.1] at c2
          exact absurd c2 (by decide)
  by_cases c3 : a.toNat / 16 = 14
  · match l1 with
    | [] =>
      right
      refine ⟨?_, by simp⟩
      simp only [dec, cont, List.getD_cons_zero, List.length_cons, List.length_nil]
      rw [if_neg c1, if_neg (by simp), if_neg (by simp), if_neg (by simp)]
    | [b] =>
      right
      refine ⟨?_, by simp⟩
      simp only [dec, cont, List.getD_cons_zero, List.length_cons, List.length_nil]
      rw [if_neg c1, if_neg (by simp; omega), if_neg (by simp), if_neg (by simp)]
    | b :: c :: l2 =>
      have hb := b.toNat_lt
      have hc := c.toNat_lt
      by_cases d : b.toNat / 64 = 2 ∧ c.toNat / 64 = 2 ∧ (a.toNat % 16) * 4096 + (b.toNat % 64) * 64 + c.toNat % 64 ≥ 2048 ∧ okRune ((a.toNat % 16) * 4096 + (b.toNat % 64) * 64 + c.toNat % 64 : Nat)
      · left
        obtain ⟨d1, d2, d3, d4⟩ := d
        have e : dec (a :: b :: c :: l2) = ((a.toNat % 16) * 4096 + (b.toNat % 64) * 64 + c.toNat % 64, 3) := by
          simp only [dec, cont, List.getD_cons_zero, List.getD_cons_succ, List.length_cons, valid_iff]
          rw [if_neg c1, if_neg (by simp; omega), if_pos (by simp; omega), if_pos (by rw [decide_eq_true d4]; simp; omega)]
        rw [e]
        have d5 := d4
        unfold okRune at d5
        have f := enc3 ((a.toNat % 16) * 4096 + (b.toNat % 64) * 64 + c.toNat % 64) (by omega)
        rw [u8_of_toNat a _ (by omega), u8_of_toNat b _ (by omega), u8_of_toNat c _ (by omega)] at f
        exact ⟨d4, by rw [f]; rfl, by rw [f]; rfl⟩
      · right
        refine ⟨?_, ?_⟩
        · simp only [dec, cont, List.getD_cons_zero, List.getD_cons_succ, List.length_cons, valid_iff]
          rw [if_neg c1, if_neg (by simp; omega)]
          by_cases d1 : b.toNat / 64 = 2 ∧ c.toNat / 64 = 2
          · rw [if_pos (by simp; omega), if_neg ?_]
            intro h
            simp only [Bool.and_eq_true, decide_eq_true_eq] at h
            exact d ⟨d1.1, d1.2, h.1, h.2⟩
          · rw [if_neg (by simp; omega), if_neg (by simp; omega)]
        · intro t e
          simp only [List.cons_append, List.nil_append, List.cons.injEq] at e
          obtain ⟨rfl, rfl, rfl, _⟩ := e
          exact d ⟨by decide, by decide, by decide, by unfold okRune; decide⟩
  by_cases c4 : a.toNat / 8 = 30
  · match l1 with
    | [] =>
      right
      refine ⟨?_, by simp⟩
      simp only [dec, cont, List.getD_cons_zero, List.length_cons, List.length_nil]
      rw [if_neg c1, if_neg (by simp), if_neg (by simp), if_neg (by simp)]
    | [b] =>
      right
      refine ⟨?_, by simp⟩
      simp only [dec, cont, List.getD_cons_zero, List.length_cons, List.length_nil]
      rw [if_neg c1, if_neg (by simp; omega), if_neg (by simp), if_neg (by simp)]
    | [b, c] =>
      right
      refine ⟨?_, fun t e => ?_⟩
      · simp only [dec, cont, List.getD_cons_zero, List.length_cons, List.length_nil]
        rw [if_neg c1, if_neg (by simp; omega), if_neg (by simp; omega), if_neg (by simp)]
      · simp only [List.cons_append, List.cons.injEq] at e
        rw [e.1] at c4
        exact absurd c4 (by decide)
    | b :: c :: f :: l2 =>
      have hb := b.toNat_lt
      have hc := c.toNat_lt
      have hf := f.toNat_lt
      by_cases d : b.toNat / 64 = 2 ∧ c.toNat / 64 = 2 ∧ f.toNat / 64 = 2 ∧ (a.toNat % 8) * 262144 + (b.toNat % 64) * 4096 + (c.toNat % 64) * 64 + f.toNat % 64 ≥ 65536 ∧ okRune ((a.toNat % 8) * 262144 + (b.toNat % 64) * 4096 + (c.toNat % 64) * 64 + f.toNat % 64 : Nat)
      · left
        obtain ⟨d1, d2, d3, d4, d5⟩ := d
        have e : dec (a :: b :: c :: f :: l2) = ((a.toNat % 8) * 262144 + (b.toNat % 64) * 4096 + (c.toNat % 64) * 64 + f.toNat % 64, 4) := by
          simp only [dec, cont, List.getD_cons_zero, List.getD_cons_succ, List.length_cons, valid_iff]
          rw [if_neg c1, if_neg (by simp; omega), if_neg (by simp; omega), if_pos (by simp; omega), if_pos (by rw [decide_eq_true d5]; simp; omega)]
        rw [e]
        have d6 := d5
        unfold okRune at d6
        have g := enc4 ((a.toNat % 8) * 262144 + (b.toNat % 64) * 4096 + (c.toNat % 64) * 64 + f.toNat % 64) (by omega) (by omega)
        rw [u8_of_toNat a _ (by omega), u8_of_toNat b _ (by omega), u8_of_toNat c _ (by omega), u8_of_toNat f _ (by omega)] at g
        exact ⟨d5, by rw [g]; rfl, by rw [g]; rfl⟩
      · right
        refine ⟨?_, ?_⟩
        · simp only [dec, cont, List.getD_cons_zero, List.getD_cons_succ, List.length_cons, valid_iff]
          rw [if_neg c1, if_neg (by simp; omega), if_neg (by simp; omega)]
          by_cases d1 : b.toNat / 64 = 2 ∧ c.toNat / 64 = 2 ∧ f.toNat / 64 = 2
          · rw [if_pos (by simp; omega), if_neg ?_]
            intro h
            simp only [Bool.and_eq_true, decide_eq_true_eq] at h
            exact d ⟨d1.1, d1.2.1, d1.2.2, h.1, h.2⟩
          · rw [if_neg (by simp; omega)]
        · intro t e
          simp only [List.cons_append, List.cons.injEq] at e
          rw [e.1] at c4
          exact absurd c4 (by decide)
  right
  refine ⟨?_, ?_⟩
  · simp only [dec, List.getD_cons_zero]
    rw [if_neg c1, if_neg (by simp [c2]), if_neg (by simp [c3]), if_neg (by simp [c4])]
  · intro t e
    simp only [List.cons_append, List.cons.injEq] at e
    rw [e.1] at c3
    exact absurd (by decide) c3
theorem dec_pos (l : List UInt8) (hl : l ≠ []) : 1 ≤ (dec l).2 := by
  rcases dec_cases l hl with ⟨_, _, h⟩ | ⟨h, _⟩
  · rw [h]
    have := (Lib.encodeRuneZ_length ((dec l).1 : Nat)).1
    simpa [enc, Lib.encodeRune] using this
  · rw [h]; exact Nat.le_refl _
theorem dec_le (l : List UInt8) (hl : l ≠ []) : (dec l).2 ≤ l.length := by
  rcases dec_cases l hl with ⟨_, h, h'⟩ | ⟨h, _⟩
  · have := congrArg List.length h
    rw [List.length_append, List.length_drop] at this
    omega
  · rw [h]; exact List.length_pos_iff.2 hl
theorem dec_lt (l : List UInt8) : (dec l).1 < 1114112 := by
  cases l with
  | nil => decide
  | cons a t =>
    rcases dec_cases (a :: t) (by simp) with ⟨h, _⟩ | ⟨h, _⟩
    · unfold okRune at h; omega
    · rw [h]; decide
def runes (l : List UInt8) : List Int :=
  match l with
  | [] => []
  | c :: t => ((dec (c :: t)).1 : Int) :: runes (t.drop ((dec (c :: t)).2 - 1))
termination_by l.length
decreasing_by simp; omega
theorem runes_nil : runes [] = [] := by rw [runes]
theorem runes_step (l : List UInt8) (hl : l ≠ []) : runes l = ((dec l).1 : Int) :: runes (l.drop (dec l).2) := by
  obtain ⟨c, t, rfl⟩ := List.exists_cons_of_ne_nil hl
  have h := dec_pos (c :: t) (by simp)
  rw [runes]
  congr 2
  obtain ⟨k, hk⟩ : ∃ k, (dec (c :: t)).2 = k + 1 := ⟨_, (Nat.sub_add_cancel h).symm⟩
  rw [hk]; rfl
theorem runes_enc (n : Nat) (h : okRune n) (t : List UInt8) : runes (enc n ++ t) = (n : Int) :: runes t := by
  have hd := dec_enc n h t
  have hne : enc n ++ t ≠ [] := by
    have := (Lib.encodeRuneZ_length (n : Int)).1
    intro e
    have e2 := congrArg List.length e
    simp [enc, Lib.encodeRune] at e2
    rw [e2.1] at this
    simp at this
  rw [runes_step _ hne, hd, List.drop_left]
def text (l : List Int) : List UInt8 := l.flatMap enc
theorem text_append (a b : List Int) : text (a ++ b) = text a ++ text b := by simp [text]
theorem text_cons (a : Int) (b : List Int) : text (a :: b) = enc a ++ text b := by simp [text]
theorem runes_text (l : List Int) (h : ∀ r ∈ l, okRune r) (t : List UInt8) : runes (text l ++ t) = l ++ runes t := by
  induction l with
  | nil => rfl
  | cons r l ih =>
    have h1 := h r (by simp)
    obtain ⟨n, rfl⟩ : ∃ n : Nat, r = n := ⟨r.toNat, by unfold okRune at h1; omega⟩
    rw [text_cons, List.append_assoc, runes_enc n h1, ih (fun x hx => h x (by simp [hx]))]
    rfl
def mk : Bool → List Int → List Int
  | _, [] => []
  | p, r :: l => (if r = 13 then [10] else if r = 10 ∧ p = true then [] else if r = 0 then [65533] else [r]) ++ mk (decide (r = 13)) l
def right (l : List UInt8) : List UInt8 := text (mk false (runes l))
def isB (l : List UInt8) : Bool :=
  match l with
  | [] => true
  | c :: t => !((dec (c :: t)).1 == 0 || (dec (c :: t)).1 == 13 || ((dec (c :: t)).1 == 65533 && !((c :: t).take 3 == [239, 191, 189]))) && isB (t.drop ((dec (c :: t)).2 - 1))
termination_by l.length
decreasing_by simp; omega
theorem isB_nil : isB [] = true := by rw [isB]
theorem isB_step (l : List UInt8) (hl : l ≠ []) : isB l = (!((dec l).1 == 0 || (dec l).1 == 13 || ((dec l).1 == 65533 && !(l.take 3 == [239, 191, 189]))) && isB (l.drop (dec l).2)) := by
  obtain ⟨c, t, rfl⟩ := List.exists_cons_of_ne_nil hl
  have h := dec_pos (c :: t) (by simp)
  rw [isB]
  congr 2
  obtain ⟨k, hk⟩ : ∃ k, (dec (c :: t)).2 = k + 1 := ⟨_, (Nat.sub_add_cancel h).symm⟩
  rw [hk]; rfl
theorem enc_head (n : Nat) (h : okRune n) : ∃ a t, enc n = a :: t ∧ (n < 128 → a.toNat = n) ∧ (128 ≤ n → 128 ≤ a.toNat) := by
  have hn : n ≤ 127 ∨ (128 ≤ n ∧ n ≤ 2047) ∨ ((2048 ≤ n ∧ n < 55296) ∨ (57343 < n ∧ n ≤ 65535)) ∨ (65536 ≤ n ∧ n ≤ 1114111) := by unfold okRune at h; omega
  rcases hn with h1 | ⟨h1, h2⟩ | h1 | ⟨h1, h2⟩
  · exact ⟨_, _, enc1 n h1, fun _ => toNat_u8 n (by omega), fun _ => by omega⟩
  · exact ⟨_, _, enc2 n h1 h2, fun _ => by omega, fun _ => by rw [toNat_u8 _ (by omega)]; omega⟩
  · exact ⟨_, _, enc3 n h1, fun _ => by omega, fun _ => by rw [toNat_u8 _ (by omega)]; omega⟩
  · exact ⟨_, _, enc4 n h1 h2, fun _ => by omega, fun _ => by rw [toNat_u8 _ (by omega)]; omega⟩
theorem enc_fffd : enc 65533 = [239, 191, 189] := by decide
theorem isB_iff : ∀ (n : Nat) (l : List UInt8), l.length ≤ n → (isB l = true ↔ text (mk false (runes l)) = l) := by
  intro n
  induction n with
  | zero => intro l hl; have : l = [] := List.eq_nil_of_length_eq_zero (by omega); subst this; rw [isB_nil, runes_nil]; simp [mk, text]
  | succ n ih =>
    intro l hl
    by_cases hne : l = []
    · subst hne; rw [isB_nil, runes_nil]; simp [mk, text]
    have hpos := dec_pos l hne
    have hlen := List.length_pos_iff.2 hne
    have ih' := ih (l.drop (dec l).2) (by rw [List.length_drop]; omega)
    rw [isB_step l hne, runes_step l hne]
    rcases dec_cases l hne with ⟨hok, hl2, hw⟩ | ⟨hbad, hno⟩
    · generalize hr : (dec l).1 = r at *
      generalize hrest : l.drop (dec l).2 = rest at *
      obtain ⟨a, t, ha, ha1, ha2⟩ := enc_head r hok
      by_cases h0 : r = 0
      · subst h0
        constructor
        · intro h; simp at h
        · intro h
          rw [hl2] at h
          simp only [mk, text_append] at h
          rw [if_neg (by decide), if_neg (by simp), if_pos (by rfl), text_cons, show enc 65533 = [239, 191, 189] from enc_fffd, show enc ((0 : Nat) : Int) = [0] from by decide] at h
          simp at h
      by_cases h13 : r = 13
      · subst h13
        constructor
        · intro h; simp at h
        · intro h
          rw [hl2] at h
          simp only [mk, text_append] at h
          rw [if_pos (by rfl), text_cons, show enc 10 = [10] from by decide, show enc ((13 : Nat) : Int) = [13] from by decide] at h
          simp at h
      have hmk : text (mk false ((r : Int) :: runes rest)) = enc r ++ text (mk false (runes rest)) := by
        simp only [mk]
        rw [if_neg (by omega), if_neg (by simp), if_neg (by omega), text_append, decide_eq_false (by omega : ¬ (r : Int) = 13)]
        simp [text]
      rw [hmk]
      have hsp : (r == 65533 && !(l.take 3 == [239, 191, 189])) = false := by
        by_cases hf : r = 65533
        · subst hf
          rw [hl2, show enc ((65533 : Nat) : Int) = [239, 191, 189] from enc_fffd]
          simp
        · simp [hf]
      rw [hsp]
      have hb : (r == 0 || r == 13 || false) = false := by simp [h0, h13]
      rw [hb]
      simp only [Bool.not_false, Bool.true_and]
      rw [ih']
      constructor
      · intro h; rw [h]; exact hl2.symm
      · intro h
        have h2 : enc (r : Int) ++ text (mk false (runes rest)) = enc (r : Int) ++ rest := h.trans hl2
        exact List.append_cancel_left h2
    · rw [hbad]
      have hnt : (l.take 3 == [239, 191, 189]) = false := by
        rw [beq_eq_false_iff_ne]
        intro h
        exact hno (l.drop 3) (by rw [← h, List.take_append_drop])
      rw [hnt]
      constructor
      · intro h; simp at h
      · intro h
        exfalso
        simp only [mk] at h
        rw [if_neg (by decide), if_neg (by simp), if_neg (by decide), text_append, text_cons, show enc ((65533 : Nat) : Int) = [239, 191, 189] from enc_fffd] at h
        exact hno _ (by rw [← h]; simp only [List.append_assoc]; rfl)
theorem isB_right_iff (l : List UInt8) : isB l = true ↔ right l = l := isB_iff l.length l (Nat.le_refl _)
theorem runes_ok (n : Nat) : ∀ (l : List UInt8), l.length ≤ n → ∀ r ∈ runes l, okRune r := by
  induction n with
  | zero => intro l hl; have : l = [] := List.eq_nil_of_length_eq_zero (by omega); subst this; rw [runes_nil]; simp
  | succ n ih =>
    intro l hl r hr
    by_cases hne : l = []
    · subst hne; rw [runes_nil] at hr; simp at hr
    have hpos := dec_pos l hne
    have hlen := List.length_pos_iff.2 hne
    rw [runes_step l hne] at hr
    rcases List.mem_cons.1 hr with rfl | hr
    · rcases dec_cases l hne with ⟨hok, _⟩ | ⟨hbad, _⟩
      · exact hok
      · rw [hbad]; decide
    · exact ih (l.drop (dec l).2) (by rw [List.length_drop]; omega) r hr
theorem mk_ok : ∀ (l : List Int) (p : Bool), (∀ r ∈ l, okRune r) → ∀ r ∈ mk p l, okRune r ∧ r ≠ 0 ∧ r ≠ 13
  | [], _, _, r, hr => by simp [mk] at hr
  | x :: l, p, h, r, hr => by
    simp only [mk] at hr
    rcases List.mem_append.1 hr with hr | hr
    · by_cases h13 : x = 13
      · rw [if_pos h13] at hr; simp at hr; subst hr; decide
      rw [if_neg h13] at hr
      by_cases h10 : x = 10 ∧ p = true
      · rw [if_pos h10] at hr; simp at hr
      rw [if_neg h10] at hr
      by_cases h0 : x = 0
      · rw [if_pos h0] at hr; simp at hr; subst hr; decide
      · rw [if_neg h0] at hr; simp at hr; subst hr; exact ⟨h _ (by simp), h0, h13⟩
    · exact mk_ok l _ (fun y hy => h y (by simp [hy])) r hr
theorem mk_fix : ∀ (l : List Int), (∀ r ∈ l, r ≠ 0 ∧ r ≠ 13) → mk false l = l
  | [], _ => rfl
  | x :: l, h => by
    have hx := h x (by simp)
    simp only [mk]
    rw [if_neg hx.2, if_neg (by simp), if_neg hx.1, decide_eq_false hx.2, mk_fix l (fun y hy => h y (by simp [hy]))]
    rfl
theorem right_ok (l : List UInt8) : ∀ r ∈ mk false (runes l), okRune r ∧ r ≠ 0 ∧ r ≠ 13 := mk_ok _ _ (runes_ok l.length l (Nat.le_refl _))
theorem runes_right (l t : List UInt8) : runes (right l ++ t) = mk false (runes l) ++ runes t := runes_text _ (fun r hr => (right_ok l r hr).1) t
theorem right_right (l : List UInt8) : right (right l) = right l := by
  have h := runes_right l []
  simp only [List.append_nil, runes_nil] at h
  show text (mk false (runes (right l))) = _
  rw [h, mk_fix _ (fun r hr => (right_ok l r hr).2)]
  rfl
theorem isB_right (l : List UInt8) : isB (right l) = true := (isB_right_iff _).2 (right_right l)
theorem isB_join (a b : List UInt8) : isB (right a ++ right b) = true := by
  rw [isB_right_iff]
  have h := runes_right a (right b)
  have h2 := runes_right b []
  simp only [List.append_nil, runes_nil] at h2
  rw [h2] at h
  show text (mk false (runes (right a ++ right b))) = _
  rw [h, mk_fix _ (fun r hr => by rcases List.mem_append.1 hr with hr | hr; exact (right_ok a r hr).2; exact (right_ok b r hr).2), text_append]
  rfl
theorem text_len_le (l : List Int) : (text l).length ≤ 4 * l.length := by
  induction l with
  | nil => simp [text]
  | cons r l ih =>
    rw [text_cons, List.length_append]
    have := (Lib.encodeRuneZ_length r).2
    have e : (enc r).length = (Lib.encodeRuneZ r).length := by simp [enc, Lib.encodeRune]
    simp; omega
theorem mk_len : ∀ (l : List Int) (p : Bool), (mk p l).length ≤ l.length
  | [], _ => by simp [mk]
  | x :: l, p => by
    have := mk_len l (decide (x = 13))
    simp only [mk, List.length_append, List.length_cons]
    split
    · simp; omega
    split
    · simp; omega
    split <;> (simp; omega)
theorem runes_len (n : Nat) : ∀ (l : List UInt8), l.length ≤ n → (runes l).length ≤ l.length := by
  induction n with
  | zero => intro l hl; have : l = [] := List.eq_nil_of_length_eq_zero (by omega); subst this; rw [runes_nil]; simp
  | succ n ih =>
    intro l hl
    by_cases hne : l = []
    · subst hne; rw [runes_nil]; simp
    have hpos := dec_pos l hne
    have hlen := List.length_pos_iff.2 hne
    have := ih (l.drop (dec l).2) (by rw [List.length_drop]; omega)
    rw [runes_step l hne]
    rw [List.length_drop] at this
    simp; omega
theorem right_len (l : List UInt8) : (right l).length ≤ 4 * l.length := by
  have h1 := text_len_le (mk false (runes l))
  have h2 := mk_len (runes l) false
  have h3 := runes_len l.length l (Nat.le_refl _)
  unfold right; omega
def small (c : UInt8) : UInt8 := if 65 ≤ c.toNat ∧ c.toNat ≤ 90 then c + 32 else c
theorem small_nat (c : UInt8) : (small c).toNat = if 65 ≤ c.toNat ∧ c.toNat ≤ 90 then c.toNat + 32 else c.toNat := by
  unfold small
  split
  · rw [UInt8.toNat_add]; simp; omega
  · rfl
theorem small_small (c : UInt8) : small (small c) = small c := by
  have h := small_nat c
  rw [small, if_neg]
  split at h <;> omega
def fold (l : List UInt8) : List UInt8 := l.map small
def prefixB (s p : List UInt8) : Bool := decide (p.length ≤ s.length) && (fold (s.take p.length) == p)
theorem prefixB_short (s p : List UInt8) (h : s.length < p.length) : prefixB s p = false := by simp [prefixB]; omega
theorem prefixB_diff (s p : List UInt8) (k : Nat) (h : k < p.length) (h' : k < s.length) (hd : ¬ small s[k] = p[k]) : prefixB s p = false := by
  unfold prefixB
  rw [Bool.and_eq_false_iff]
  right
  rw [beq_eq_false_iff_ne]
  intro h1
  have h2 := congrArg (fun l => l[k]?) h1
  simp only [fold, List.getElem?_map, List.getElem?_take, if_pos h, List.getElem?_eq_getElem h', List.getElem?_eq_getElem h, Option.map_some, Option.some.injEq] at h2
  exact hd h2
theorem prefixB_yes (s p : List UInt8) (h : p.length ≤ s.length) (he : fold (s.take p.length) = p) : prefixB s p = true := by
  unfold prefixB
  rw [decide_eq_true h, he]; simp
def foldTo (l : List UInt8) (k : Nat) : List UInt8 := fold (l.take k) ++ l.drop k
theorem foldTo_zero (l : List UInt8) : foldTo l 0 = l := by simp [foldTo, fold]
theorem foldTo_all (l : List UInt8) (k : Nat) (h : l.length ≤ k) : foldTo l k = fold l := by simp [foldTo, List.take_of_length_le h, List.drop_of_length_le h]
theorem foldTo_length (l : List UInt8) (k : Nat) : (foldTo l k).length = l.length := by simp [foldTo, fold]; omega
theorem foldTo_get (l : List UInt8) (k : Nat) (h : k < l.length) : (foldTo l k)[k]? = some l[k] := by
  unfold foldTo
  have hl : (fold (l.take k)).length = k := by simp [fold]; omega
  rw [List.getElem?_append_right (by omega), hl, Nat.sub_self, List.getElem?_drop, Nat.add_zero, List.getElem?_eq_getElem h]
theorem foldTo_set (l : List UInt8) (k : Nat) (h : k < l.length) : (foldTo l k).set k (small l[k]) = foldTo l (k + 1) := by
  unfold foldTo
  have e1 : l.take (k + 1) = l.take k ++ [l[k]] := List.take_succ_eq_append_getElem h
  have e2 : l.drop k = l[k] :: l.drop (k + 1) := List.drop_eq_getElem_cons h
  have hl : (fold (l.take k)).length = k := by simp [fold]; omega
  rw [List.set_append_right _ _ (by omega), hl, Nat.sub_self, e1, e2, List.set_cons_zero]
  unfold fold
  rw [List.map_append, List.append_assoc]
  rfl
end M1
end Go.Proofs.YteefodibpjgicaaGreat

namespace Go.Proofs.YteefodibpjgicaaGreat
namespace M2
open M1
def tbl : List (List UInt8 × Nat) :=
  [([97, 109, 112], 38), ([108, 116], 60), ([103, 116], 62), ([113, 117, 111, 116], 34), ([97, 112, 111, 115], 39), ([110, 98, 115, 112], 160), ([99, 111, 112, 121], 169), ([114, 101, 103], 174), ([100, 101, 103], 176),
   ([109, 105, 100, 100, 111, 116], 183), ([116, 105, 109, 101, 115], 215), ([110, 100, 97, 115, 104], 8211), ([109, 100, 97, 115, 104], 8212), ([104, 101, 108, 108, 105, 112], 8230), ([101, 117, 114, 111], 8364)]
def nm (s : List UInt8) : Option Nat := (tbl.find? (fun p => p.1 == s)).map (·.2)
theorem nm_mem {s : List UInt8} {n : Nat} (h : nm s = some n) : (s, n) ∈ tbl := by
  unfold nm at h
  obtain ⟨p, h1, h2⟩ := Option.map_eq_some_iff.1 h
  have h3 := List.mem_of_find?_eq_some h1
  have h4 := List.find?_some h1
  have h5 : p.1 = s := by simpa using h4
  rw [← h5, ← h2]
  exact h3
theorem nm_none {s : List UInt8} (h : ∀ p ∈ tbl, p.1 ≠ s) : nm s = none := by
  unfold nm
  rw [List.find?_eq_none.2 (fun p hp => by simpa using h p hp)]
  rfl
theorem tbl_facts : ∀ p ∈ tbl, p.1.length ≤ 6 ∧ 1 ≤ p.1.length ∧ (∀ c ∈ p.1, c.toNat < 128 ∧ c.toNat ≠ 59) ∧ p.1.head? ≠ some 35 ∧ okRune p.2 ∧ p.2 ≠ 0 ∧ p.2 ≠ 13 := by decide
theorem tbl_apart : tbl.Pairwise (fun p q => p.1 ≠ q.1) := by decide
theorem nm_of_mem {p : List UInt8 × Nat} (h : p ∈ tbl) : nm p.1 = some p.2 := by
  revert p
  decide
def digZ (r : Int) : Int := if 48 ≤ r ∧ r ≤ 57 then r - 48 else if 97 ≤ r ∧ r ≤ 102 then r - 97 + 10 else if 65 ≤ r ∧ r ≤ 70 then r - 65 + 10 else -1
theorem digZ_bd (r : Int) : -1 ≤ digZ r ∧ digZ r ≤ 15 := by
  unfold digZ
  repeat' split
  all_goals omega
theorem digZ_big (r : Int) (h : 128 ≤ r) : digZ r = -1 := by
  unfold digZ
  repeat' split
  all_goals omega
def isD (b : Nat) (c : UInt8) : Bool := decide (0 ≤ digZ c.toNat ∧ digZ c.toNat < b)
theorem isD_59 (b : Nat) : isD b 59 = false := by
  have : digZ ((59 : UInt8).toNat : Int) = -1 := by decide
  unfold isD
  rw [this]
  simp
theorem isD_ascii {b : Nat} {c : UInt8} (h : isD b c = true) : c.toNat < 128 := by
  unfold isD at h
  rcases Nat.lt_or_ge c.toNat 128 with h1 | h1
  · exact h1
  · rw [digZ_big _ (by omega)] at h
    simp at h
theorem isD_no {b : Nat} {c : UInt8} (h : isD b c = false) : digZ c.toNat < 0 ∨ (b : Int) ≤ digZ c.toNat := by
  unfold isD at h
  have := of_decide_eq_false h
  omega
theorem dec_lo (c : UInt8) (t : List UInt8) (h : c.toNat < 128) : dec (c :: t) = (c.toNat, 1) := by
  simp only [dec, List.getD_cons_zero]
  rw [if_pos h]
theorem dec_hi (c : UInt8) (t : List UInt8) (h : 128 ≤ c.toNat) : 128 ≤ (dec (c :: t)).1 := by
  rcases dec_cases (c :: t) (by simp) with ⟨h1, h2, _⟩ | ⟨h1, _⟩
  · rcases Nat.lt_or_ge (dec (c :: t)).1 128 with h3 | h3
    · exfalso
      obtain ⟨a, u, h4, h5, _⟩ := enc_head _ h1
      rw [h4] at h2
      have h6 : c = a := by simp at h2; exact h2.1
      have := h5 h3
      rw [← h6] at this
      omega
    · exact h3
  · rw [h1]; decide
def val (b : Nat) : List UInt8 → Int
  | [] => 0
  | c :: t => digZ c.toNat * (b : Int) ^ t.length + val b t
theorem val_snoc (b : Nat) (l : List UInt8) (c : UInt8) : val b (l ++ [c]) = val b l * b + digZ c.toNat := by
  induction l with
  | nil => simp [val]
  | cons d t ih =>
    rw [List.cons_append, val, val, ih, List.length_append, List.length_singleton, Int.pow_succ, Int.add_mul, ← Int.mul_assoc]
    omega
theorem val_bd (b : Nat) (l : List UInt8) (h : ∀ c ∈ l, isD b c = true) : 0 ≤ val b l ∧ val b l < (b : Int) ^ l.length := by
  induction l with
  | nil => simp [val]
  | cons d t ih =>
    have ih := ih (fun c hc => h c (by simp [hc]))
    have hd := h d (by simp)
    unfold isD at hd
    have hd := of_decide_eq_true hd
    rw [val, List.length_cons, Int.pow_succ]
    have h1 : digZ d.toNat + 1 ≤ b := by omega
    have h2 : (digZ d.toNat + 1) * (b : Int) ^ t.length ≤ b * (b : Int) ^ t.length := Int.mul_le_mul_of_nonneg_right h1 (by omega)
    have h3 : 0 ≤ digZ d.toNat * (b : Int) ^ t.length := Int.mul_nonneg hd.1 (by omega)
    rw [Int.add_mul, Int.one_mul] at h2
    rw [Int.mul_comm ((b : Int) ^ t.length) b]
    omega
def digs (b m : Nat) (l : List UInt8) : List UInt8 := (l.takeWhile (isD b)).take m
theorem digs_all (b m : Nat) (l : List UInt8) : ∀ c ∈ digs b m l, isD b c = true := fun c hc => by
  have h1 := List.mem_of_mem_take hc
  have h2 : l.takeWhile (isD b) = l.takeWhile (isD b) := rfl
  exact (List.all_eq_true.1 (List.all_takeWhile (l := l) (p := isD b))) c h1
theorem digs_len (b m : Nat) (l : List UInt8) : (digs b m l).length ≤ m ∧ (digs b m l).length ≤ l.length := by
  unfold digs
  rw [List.length_take]
  have := (List.takeWhile_sublist (l := l) (isD b)).length_le
  omega
theorem digs_of (b m : Nat) (l : List UInt8) (k : Nat) (hk : k ≤ l.length) (hm : k ≤ m) (ha : ∀ c ∈ l.take k, isD b c = true) (he : k = m ∨ k = l.length ∨ ∃ c, l[k]? = some c ∧ isD b c = false) : digs b m l = l.take k := by
  have h1 : l.takeWhile (isD b) = l.take k ++ (l.drop k).takeWhile (isD b) := by
    conv => lhs; rw [← List.take_append_drop k l]
    rw [List.takeWhile_append_of_pos ha]
  unfold digs
  rw [h1]
  have hl : (l.take k).length = k := by rw [List.length_take]; omega
  rcases he with rfl | rfl | ⟨c, hc, hn⟩
  · rw [List.take_append_of_le_length (by omega), List.take_of_length_le (by omega)]
  · rw [List.drop_length, List.takeWhile_nil, List.append_nil, List.take_of_length_le (by omega)]
  · have h2 : l.drop k = c :: l.drop (k + 1) := by
      obtain ⟨h3, h4⟩ := List.getElem?_eq_some_iff.1 hc
      rw [List.drop_eq_getElem_cons h3, h4]
    rw [h2, List.takeWhile_cons, hn, if_neg (by simp), List.append_nil, List.take_of_length_le (by omega)]
theorem digs_prefix (b m : Nat) (l : List UInt8) : digs b m l = l.take (digs b m l).length := by
  have h1 : l.takeWhile (isD b) <+: l := List.takeWhile_prefix _
  have h2 : digs b m l <+: l := (List.take_prefix _ _).trans h1
  exact (List.prefix_iff_eq_take.1 h2)
def chr (n : Int) : Int := if n = 0 ∨ n = 13 ∨ (55296 ≤ n ∧ n ≤ 57343) ∨ 1114111 < n then 65533 else n
theorem chr_ok (n : Int) (h : 0 ≤ n) : okRune (chr n) ∧ chr n ≠ 0 ∧ chr n ≠ 13 := by
  unfold chr okRune
  split <;> omega
def num (f b m : Nat) (l : List UInt8) : Option (Int × Nat) :=
  if (digs b m (l.drop f)).length = 0 ∨ l[f + (digs b m (l.drop f)).length]? ≠ some 59 then none
  else some (chr (val b (digs b m (l.drop f))), f + (digs b m (l.drop f)).length + 1)
def near (l : List UInt8) : List UInt8 := (l.drop 1).take 7
def named (l : List UInt8) : Option (Int × Nat) :=
  if Lib.indexByte (near l) 59 < 0 then none
  else (nm ((near l).take (Lib.indexByte (near l) 59).toNat)).map (fun (r : Nat) => ((r : Int), 1 + (Lib.indexByte (near l) 59).toNat + 1))
def one (l : List UInt8) : Option (Int × Nat) :=
  if l.head? ≠ some 38 then none
  else if l.take 3 = [38, 35, 120] ∨ l.take 3 = [38, 35, 88] then num 3 16 6 l
  else if l.take 2 = [38, 35] then num 2 10 7 l
  else named l
def numR (b m : Nat) (ds : List UInt8) : Option Int := if 1 ≤ ds.length ∧ ds.length ≤ m ∧ ds.all (isD b) = true then some (chr (val b ds)) else none
def ownB (own : List UInt8) : Option Int :=
  if own.take 2 = [35, 120] ∨ own.take 2 = [35, 88] then numR 16 6 (own.drop 2)
  else if own.take 1 = [35] then numR 10 7 (own.drop 1)
  else (nm own).map Int.ofNat
theorem not_mem_get {l : List UInt8} {c : UInt8} (h : c ∉ l) (k : Nat) : l[k]? ≠ some c := fun e => h (List.mem_of_getElem? e)
theorem num_own (b m : Nat) (pre ds rest : List UInt8) (h59 : (59 : UInt8) ∉ ds) : num pre.length b m (pre ++ (ds ++ 59 :: rest)) = (numR b m ds).map (fun r => (r, pre.length + ds.length + 1)) := by
  have hd : (pre ++ (ds ++ 59 :: rest)).drop pre.length = ds ++ 59 :: rest := List.drop_left
  have hg : ∀ k, (pre ++ (ds ++ 59 :: rest))[pre.length + k]? = (ds ++ 59 :: rest)[k]? := fun k => by rw [List.getElem?_append_right (by omega)]; congr 1; omega
  unfold num
  rw [hd, hg]
  by_cases hall : ds.all (isD b) = true
  · have ha := List.all_eq_true.1 hall
    by_cases hm : ds.length ≤ m
    · have e : digs b m (ds ++ 59 :: rest) = ds := by
        have := digs_of b m (ds ++ 59 :: rest) ds.length (by simp) hm (by rw [List.take_left]; exact ha) (Or.inr (Or.inr ⟨59, by simp, isD_59 b⟩))
        rwa [List.take_left] at this
      rw [e]
      by_cases h0 : ds.length = 0
      · rw [if_pos (Or.inl h0), numR, if_neg (by omega)]; rfl
      · rw [if_neg (by simp [h0]), numR, if_pos ⟨by omega, hm, hall⟩]; rfl
    · have e : digs b m (ds ++ 59 :: rest) = ds.take m := by
        have := digs_of b m (ds ++ 59 :: rest) m (by simp; omega) (Nat.le_refl _) (by rw [List.take_append_of_le_length (by omega)]; exact fun c hc => ha c (List.mem_of_mem_take hc)) (Or.inl rfl)
        rwa [List.take_append_of_le_length (by omega)] at this
      have el : (ds.take m).length = m := by rw [List.length_take]; omega
      rw [e, el, if_pos (Or.inr ?_), numR, if_neg (by omega)]
      · rfl
      · rw [List.getElem?_append_left (by omega)]
        exact not_mem_get h59 m
  · have hnr : numR b m ds = none := if_neg (fun h => hall h.2.2)
    rw [hnr]
    have hp := digs_prefix b m (ds ++ 59 :: rest)
    have ha := digs_all b m (ds ++ 59 :: rest)
    have hl : (digs b m (ds ++ 59 :: rest)).length < ds.length := by
      rcases Nat.lt_or_ge (digs b m (ds ++ 59 :: rest)).length ds.length with h | h
      · exact h
      · exfalso
        apply hall
        rw [List.all_eq_true]
        intro c hc
        refine ha c ?_
        rw [hp, List.take_append, List.take_of_length_le h]
        simp [hc]
    rw [if_pos (Or.inr ?_)]
    · rfl
    · rw [List.getElem?_append_left hl]
      exact not_mem_get h59 _
theorem num_none (f b m : Nat) (l : List UInt8) (h : (59 : UInt8) ∉ l) : num f b m l = none := by
  unfold num
  rw [if_pos (Or.inr (not_mem_get h _))]
theorem indexByte_no (l : List UInt8) (c : UInt8) (h : c ∉ l) : Lib.indexByte l c = -1 := by
  induction l with
  | nil => rfl
  | cons d t ih =>
    unfold Lib.indexByte
    have h1 : d ≠ c := fun e => h (by simp [e])
    rw [if_neg (by simpa using h1), ih (fun e => h (by simp [e]))]
    rfl
theorem indexByte_at (a t : List UInt8) (c : UInt8) (h : c ∉ a) : Lib.indexByte (a ++ c :: t) c = a.length := by
  induction a with
  | nil => simp [Lib.indexByte]
  | cons d a ih =>
    have ih := ih (fun e => h (by simp [e]))
    have h1 : d ≠ c := fun e => h (by simp [e])
    rw [List.cons_append, Lib.indexByte, if_neg (by simpa using h1), ih, if_neg (by simp)]
    simp
theorem named_own (own rest : List UInt8) (h59 : (59 : UInt8) ∉ own) : named (38 :: (own ++ 59 :: rest)) = (nm own).map (fun (r : Nat) => ((r : Int), own.length + 2)) := by
  have hn : near (38 :: (own ++ 59 :: rest)) = (own ++ 59 :: rest).take 7 := rfl
  unfold named
  rw [hn]
  by_cases h : own.length ≤ 6
  · have e : (own ++ 59 :: rest).take 7 = own ++ 59 :: rest.take (6 - own.length) := by
      rw [List.take_append, List.take_of_length_le (by omega)]
      congr 1
      rw [show 7 - own.length = (6 - own.length) + 1 by omega, List.take_succ_cons]
    rw [e, indexByte_at _ _ _ h59, if_neg (by omega)]
    simp only [Int.toNat_natCast, List.take_left]
    congr 1
    funext r
    rw [show 1 + own.length + 1 = own.length + 2 by omega]
  · have e : (own ++ 59 :: rest).take 7 = own.take 7 := List.take_append_of_le_length (by omega)
    rw [e, indexByte_no _ _ (fun hc => h59 (List.mem_of_mem_take hc)), if_pos (by omega)]
    cases hno : nm own with
    | none => rfl
    | some n => exact absurd (tbl_facts _ (nm_mem hno)).1 h
theorem one_own (own rest : List UInt8) (h59 : (59 : UInt8) ∉ own) : one (38 :: (own ++ 59 :: rest)) = (ownB own).map (fun r => (r, own.length + 2)) := by
  unfold one ownB
  rw [if_neg (by simp)]
  match own, h59 with
  | [], h59 =>
    rw [if_neg (by simp), if_neg (by simp), if_neg (by simp), if_neg (by simp), named_own [] rest h59]
    cases nm [] <;> rfl
  | [c], h59 =>
    by_cases hc : c = 35
    · subst hc
      have := num_own 10 7 [38, 35] [] rest (by simp)
      rw [if_neg (by simp), if_pos (by simp), if_neg (by simp), if_pos (by simp)]
      exact this
    · rw [if_neg (by simp [hc]), if_neg (by simp [hc]), if_neg (by simp [hc]), if_neg (by simp [hc]), named_own [c] rest h59]
      cases nm [c] <;> rfl
  | c :: d :: ds, h59 =>
    by_cases hc : c = 35
    · subst hc
      by_cases hd : d = 120 ∨ d = 88
      · have := num_own 16 6 [38, 35, d] ds rest (by simp at h59; exact h59.2)
        rw [if_pos (by simpa using hd), if_pos (by simpa using hd)]
        rw [show 38 :: (35 :: d :: ds ++ 59 :: rest) = [38, 35, d] ++ (ds ++ 59 :: rest) by simp]
        rw [show (3 : Nat) = ([38, 35, d] : List UInt8).length from rfl, this]
        simp only [List.drop_succ_cons, List.drop_zero, List.length_cons, List.length_nil]
        congr 1
        funext r
        rw [show 0 + 1 + 1 + 1 + ds.length + 1 = ds.length + 1 + 1 + 2 by omega]
      · have hd' : ¬ (d = 120) ∧ ¬ (d = 88) := by
          constructor
          · exact fun e => hd (Or.inl e)
          · exact fun e => hd (Or.inr e)
        have := num_own 10 7 [38, 35] (d :: ds) rest (by simp at h59 ⊢; exact h59)
        rw [if_neg (by simp [hd'.1, hd'.2]), if_pos (by simp), if_neg (by simp [hd'.1, hd'.2]), if_pos (by simp)]
        rw [show 38 :: (35 :: d :: ds ++ 59 :: rest) = [38, 35] ++ (d :: ds ++ 59 :: rest) by simp]
        rw [show (2 : Nat) = ([38, 35] : List UInt8).length from rfl, this]
        simp only [List.drop_succ_cons, List.drop_zero, List.length_cons, List.length_nil]
        congr 1
        funext r
        rw [show 0 + 1 + 1 + (ds.length + 1) + 1 = ds.length + 1 + (0 + 1 + 1 + 1) by omega]
    · rw [if_neg (by simp [hc]), if_neg (by simp [hc]), if_neg (by simp [hc]), if_neg (by simp [hc]), named_own _ rest h59]
      cases nm (c :: d :: ds) <;> rfl
theorem one_none (t : List UInt8) (h : (59 : UInt8) ∉ t) : one (38 :: t) = none := by
  have h' : (59 : UInt8) ∉ (38 :: t) := by simp [h]
  unfold one
  rw [if_neg (by simp), num_none _ _ _ _ h', num_none _ _ _ _ h']
  split
  · rfl
  split
  · rfl
  have hn : near (38 :: t) = t.take 7 := rfl
  unfold named
  rw [hn, indexByte_no _ _ (fun hc => h (List.mem_of_mem_take hc)), if_pos (by omega)]
theorem one_not (l : List UInt8) (h : l.head? ≠ some 38) : one l = none := if_pos h
theorem semi_cases (t : List UInt8) : (59 : UInt8) ∉ t ∨ ∃ own rest, t = own ++ 59 :: rest ∧ (59 : UInt8) ∉ own := by
  induction t with
  | nil => left; simp
  | cons c t ih =>
    by_cases hc : c = 59
    · right; exact ⟨[], t, by rw [hc]; rfl, by simp⟩
    · rcases ih with h | ⟨own, rest, rfl, h⟩
      · left; simp [Ne.symm hc, h]
      · right; exact ⟨c :: own, rest, rfl, by simp [Ne.symm hc, h]⟩
theorem ownB_ok {own : List UInt8} {r : Int} (h : ownB own = some r) : okRune r ∧ r ≠ 0 ∧ r ≠ 13 := by
  unfold ownB at h
  have hn : ∀ b m ds, numR b m ds = some r → okRune r ∧ r ≠ 0 ∧ r ≠ 13 := by
    intro b m ds h
    unfold numR at h
    split at h
    · rename_i hc
      cases h
      exact chr_ok _ (val_bd b ds (List.all_eq_true.1 hc.2.2)).1
    · cases h
  split at h
  · exact hn _ _ _ h
  split at h
  · exact hn _ _ _ h
  · obtain ⟨n, h1, rfl⟩ := Option.map_eq_some_iff.1 h
    have := (tbl_facts _ (nm_mem h1)).2.2.2.2
    refine ⟨this.1, ?_, ?_⟩
    · intro e; exact this.2.1 (by simpa using Int.ofNat_eq_zero.1 e)
    · intro e; exact this.2.2 (Int.ofNat.inj e)
theorem one_some {l : List UInt8} {r : Int} {n : Nat} (h : one l = some (r, n)) : ∃ own rest, l = 38 :: (own ++ 59 :: rest) ∧ n = own.length + 2 ∧ ownB own = some r := by
  cases l with
  | nil => rw [one_not _ (by simp)] at h; cases h
  | cons c t =>
    by_cases hc : c = 38
    · subst hc
      rcases semi_cases t with h1 | ⟨own, rest, rfl, h1⟩
      · rw [one_none t h1] at h; cases h
      · rw [one_own own rest h1] at h
        obtain ⟨r', h2, h3⟩ := Option.map_eq_some_iff.1 h
        cases h3
        exact ⟨own, rest, rfl, rfl, h2⟩
    · rw [one_not _ (by simpa using hc)] at h; cases h
theorem one_bd {l : List UInt8} {r : Int} {n : Nat} (h : one l = some (r, n)) : 2 ≤ n ∧ n ≤ l.length ∧ okRune r ∧ r ≠ 0 ∧ r ≠ 13 := by
  obtain ⟨own, rest, rfl, rfl, h2⟩ := one_some h
  have := ownB_ok h2
  exact ⟨by omega, by simp only [List.length_cons, List.length_append]; omega, this⟩
def decode (l : List UInt8) : List UInt8 :=
  match l with
  | [] => []
  | c :: t => match one (c :: t) with
    | some (r, n) => enc r ++ decode (t.drop (n - 1))
    | none => c :: decode t
termination_by l.length
decreasing_by all_goals simp <;> omega
theorem decode_nil : decode [] = [] := by rw [decode]
theorem decode_ref {l : List UInt8} {r : Int} {n : Nat} (h : one l = some (r, n)) : decode l = enc r ++ decode (l.drop n) := by
  obtain ⟨own, rest, rfl, rfl, h2⟩ := one_some h
  rw [decode, h]
  simp
theorem decode_byte {c : UInt8} {t : List UInt8} (h : one (c :: t) = none) : decode (c :: t) = c :: decode t := by
  rw [decode, h]
theorem decode_plain {c : UInt8} (t : List UInt8) (h : c ≠ 38) : decode (c :: t) = c :: decode t := decode_byte (one_not _ (by simpa using h))
theorem decode_past (a t : List UInt8) (h : (38 : UInt8) ∉ a) : decode (a ++ t) = a ++ decode t := by
  induction a with
  | nil => rfl
  | cons c a ih =>
    rw [List.cons_append, decode_plain _ (fun e => h (by simp [e])), ih (fun e => h (by simp [e]))]
    rfl
theorem decode_self (l : List UInt8) (h : (38 : UInt8) ∉ l) : decode l = l := by
  have := decode_past l [] h
  rwa [List.append_nil, decode_nil, List.append_nil] at this
theorem enc_len_le (r : Int) : (enc r).length ≤ 4 ∧ 1 ≤ (enc r).length := by
  have := Lib.encodeRuneZ_length r
  have e : (enc r).length = (Lib.encodeRuneZ r).length := by simp [enc, Lib.encodeRune]
  omega
theorem decode_len : ∀ (n : Nat) (l : List UInt8), l.length ≤ n → (decode l).length ≤ 4 * l.length := by
  intro n
  induction n with
  | zero => intro l hl; have : l = [] := List.eq_nil_of_length_eq_zero (by omega); subst this; rw [decode_nil]; simp
  | succ n ih =>
    intro l hl
    cases l with
    | nil => rw [decode_nil]; simp
    | cons c t =>
      cases h : one (c :: t) with
      | none =>
        have := ih t (by simp at hl; omega)
        rw [decode_byte h]
        simp; omega
      | some p =>
        have hb := one_bd (r := p.1) (n := p.2) h
        have := ih ((c :: t).drop p.2) (by rw [List.length_drop]; omega)
        have he := enc_len_le p.1
        rw [decode_ref (r := p.1) (n := p.2) h, List.length_append]
        rw [List.length_drop] at this
        omega
def esc (v : Bool) (c : UInt8) : List UInt8 := if c = 38 then [38, 97, 109, 112, 59] else if c = 60 then [38, 108, 116, 59] else if c = 62 then [38, 103, 116, 59] else if c = 34 ∧ v = true then [38, 113, 117, 111, 116, 59] else [c]
def escape (v : Bool) (l : List UInt8) : List UInt8 := l.flatMap (esc v)
theorem escape_append (v : Bool) (a b : List UInt8) : escape v (a ++ b) = escape v a ++ escape v b := by simp [escape]
theorem escape_cons (v : Bool) (c : UInt8) (t : List UInt8) : escape v (c :: t) = esc v c ++ escape v t := by simp [escape]
theorem esc_len (v : Bool) (c : UInt8) : (esc v c).length ≤ 6 := by
  unfold esc
  repeat' split
  all_goals simp
theorem escape_len (v : Bool) (l : List UInt8) : (escape v l).length ≤ 6 * l.length := by
  induction l with
  | nil => simp [escape]
  | cons c t ih =>
    have := esc_len v c
    rw [escape_cons, List.length_append, List.length_cons]
    omega
theorem decode_name (own t : List UInt8) (n : Nat) (c : UInt8) (h59 : (59 : UInt8) ∉ own) (h : ownB own = some (n : Int)) (he : enc n = [c]) : decode (38 :: (own ++ 59 :: t)) = c :: decode t := by
  have h1 := one_own own t h59
  rw [h] at h1
  rw [decode_ref h1, he]
  simp
theorem decode_esc (v : Bool) (c : UInt8) (t : List UInt8) : decode (esc v c ++ t) = c :: decode t := by
  unfold esc
  split
  · rename_i e; subst e
    exact decode_name [97, 109, 112] t 38 38 (by decide) (by decide) (by decide)
  split
  · rename_i e; subst e
    exact decode_name [108, 116] t 60 60 (by decide) (by decide) (by decide)
  split
  · rename_i e; subst e
    exact decode_name [103, 116] t 62 62 (by decide) (by decide) (by decide)
  split
  · rename_i e; obtain ⟨rfl, _⟩ := e
    exact decode_name [113, 117, 111, 116] t 34 34 (by decide) (by decide) (by decide)
  · rename_i h _ _ _
    exact decode_plain t h
theorem decode_escape_past (v : Bool) (l t : List UInt8) : decode (escape v l ++ t) = l ++ decode t := by
  induction l with
  | nil => rfl
  | cons c l ih => rw [escape_cons, List.append_assoc, decode_esc, ih]; rfl
theorem decode_escape (v : Bool) (l : List UInt8) : decode (escape v l) = l := by
  have := decode_escape_past v l []
  rwa [List.append_nil, decode_nil, List.append_nil] at this
theorem esc_bare (c : UInt8) : ∀ x ∈ esc true c, x ≠ 60 ∧ x ≠ 62 ∧ x ≠ 34 := by
  unfold esc
  split
  · decide
  split
  · decide
  split
  · decide
  split
  · decide
  · rename_i h1 h2 h3 h4
    intro x hx
    simp at hx
    subst hx
    exact ⟨h2, h3, fun e => h4 ⟨e, rfl⟩⟩
theorem escape_bare (l : List UInt8) : ∀ x ∈ escape true l, x ≠ 60 ∧ x ≠ 62 ∧ x ≠ 34 := by
  intro x hx
  obtain ⟨c, _, h⟩ := List.mem_flatMap.1 hx
  exact esc_bare c x h
theorem enc_high (r : Int) (h : okRune r) (h1 : 128 ≤ r) : ∀ x ∈ enc r, 128 ≤ x.toNat := by
  obtain ⟨n, rfl⟩ : ∃ n : Nat, r = n := ⟨r.toNat, by omega⟩
  have hn : (128 ≤ n ∧ n ≤ 2047) ∨ ((2048 ≤ n ∧ n < 55296) ∨ (57343 < n ∧ n ≤ 65535)) ∨ (65536 ≤ n ∧ n ≤ 1114111) := by unfold okRune at h; omega
  intro x hx
  rcases hn with ⟨h1, h2⟩ | h1 | ⟨h1, h2⟩
  · rw [enc2 n h1 h2] at hx
    simp only [List.mem_cons, List.not_mem_nil, or_false] at hx
    rcases hx with rfl | rfl <;> (rw [toNat_u8 _ (by omega)]; omega)
  · rw [enc3 n h1] at hx
    simp only [List.mem_cons, List.not_mem_nil, or_false] at hx
    rcases hx with rfl | rfl | rfl <;> (rw [toNat_u8 _ (by omega)]; omega)
  · rw [enc4 n h1 h2] at hx
    simp only [List.mem_cons, List.not_mem_nil, or_false] at hx
    rcases hx with rfl | rfl | rfl | rfl <;> (rw [toNat_u8 _ (by omega)]; omega)
end M2
end Go.Proofs.YteefodibpjgicaaGreat

namespace Go.Proofs.YteefodibpjgicaaGreat
structure Att where
  name : ByteArray
  value : ByteArray
inductive Nd where
  | mk (kind : Int) (name : ByteArray) (attrs : List Att) (text : ByteArray) (kids : List Nd)
theorem Nd.ind {P : List Nd → Prop} (h0 : P []) (h1 : ∀ k n a t ks r, P ks → P r → P (Nd.mk k n a t ks :: r)) : ∀ l, P l
  | [] => h0
  | .mk k n a t ks :: r => h1 k n a t ks r (Nd.ind h0 h1 ks) (Nd.ind h0 h1 r)
termination_by l => SizeOf.sizeOf l
def Nd.kind : Nd → Int | .mk k _ _ _ _ => k
def Nd.name : Nd → ByteArray | .mk _ n _ _ _ => n
def Nd.attrs : Nd → List Att | .mk _ _ a _ _ => a
def Nd.text : Nd → ByteArray | .mk _ _ _ t _ => t
def Nd.kids : Nd → List Nd | .mk _ _ _ _ ks => ks
theorem Nd.eta (x : Nd) : x = .mk x.kind x.name x.attrs x.text x.kids := by cases x; rfl
namespace M3
def eqB (s t : ByteArray) : Bool := s.toList == t.toList
theorem eqB_iff {s t : ByteArray} : eqB s t = true ↔ s = t := by
  unfold eqB
  rw [beq_iff_eq]
  constructor
  · intro h
    rw [ByteArray.toList_eq, ByteArray.toList_eq] at h
    cases s; cases t
    congr 1
    exact Array.ext' h
  · rintro rfl; rfl
theorem eqB_self (s : ByteArray) : eqB s s = true := eqB_iff.2 rfl
theorem eqB_false {s t : ByteArray} : eqB s t = false ↔ s ≠ t := by
  rw [← Bool.not_eq_true, eqB_iff]
def nilB (s : ByteArray) : Bool := s.toList.isEmpty
theorem nilB_iff {s : ByteArray} : nilB s = true ↔ s.data.toList = [] := by
  unfold nilB
  rw [ByteArray.toList_eq, List.isEmpty_iff]
def smallB (c : UInt8) : Bool := decide (97 ≤ c.toNat ∧ c.toNat ≤ 122)
def nameB (c : UInt8) : Bool := smallB c || decide (c.toNat = 45 ∨ (48 ≤ c.toNat ∧ c.toNat ≤ 57))
def namedB : List UInt8 → Bool
  | [] => false
  | c :: r => smallB c && r.all nameB
def badB (c : UInt8) : Bool := c.toNat == 9 || c.toNat == 10 || c.toNat == 12 || c.toNat == 32 || c.toNat == 47 || c.toNat == 62 || c.toNat == 61
def capB (c : UInt8) : Bool := decide (65 ≤ c.toNat ∧ c.toNat ≤ 90)
def attributedB (l : List UInt8) : Bool := !l.isEmpty && (M1.isB l && !(l.any capB) && !(l.any badB))
def voidB (l : List UInt8) : Bool := l == [98, 114] || l == [104, 114] || l == [105, 109, 103] || l == [105, 110, 112, 117, 116] || l == [119, 98, 114]
def rawB (l : List UInt8) : Bool := l == [115, 99, 114, 105, 112, 116] || l == [115, 116, 121, 108, 101]
def tailB (l : List UInt8) (p : Nat) : Bool := if p = 0 then namedB l else (l.drop p).all nameB
def okR (p : Nat) (r : Int) : Prop := (97 ≤ r ∧ r ≤ 122) ∨ (p ≠ 0 ∧ (r = 45 ∨ (48 ≤ r ∧ r ≤ 57)))
theorem tail_no {l : List UInt8} {p : Nat} (h : p < l.length) (hr : ¬ okR p (l[p].toNat : Int)) : tailB l p = false := by
  unfold tailB okR at *
  by_cases h0 : p = 0
  · subst h0
    rw [if_pos rfl]
    cases l with
    | nil => simp at h
    | cons c r => simp [namedB, smallB] at hr ⊢; intro h1 h2; omega
  · rw [if_neg h0, List.drop_eq_getElem_cons h, List.all_cons]
    have : nameB l[p] = false := by simp [nameB, smallB, h0] at hr ⊢; omega
    rw [this]; rfl
theorem tail_yes {l : List UInt8} {p : Nat} (h : p < l.length) (hr : okR p (l[p].toNat : Int)) : tailB l p = tailB l (p + 1) := by
  unfold tailB okR at *
  rw [if_neg (show ¬ p + 1 = 0 by omega)]
  by_cases h0 : p = 0
  · subst h0
    rw [if_pos rfl]
    cases l with
    | nil => simp at h
    | cons c r => simp [namedB, smallB] at hr ⊢; intro _; exact ⟨by omega, by omega⟩
  · rw [if_neg h0, List.drop_eq_getElem_cons h, List.all_cons]
    have : nameB l[p] = true := by simp [nameB, smallB, h0] at hr ⊢; omega
    rw [this]; rfl
theorem tail_end {l : List UInt8} : tailB l l.length = !l.isEmpty := by
  unfold tailB
  cases l with
  | nil => rfl
  | cons c r => rw [if_neg (by simp)]; simp
def namesE : List ByteArray → List Att → Int
  | _, [] => 0
  | seen, a :: r => if attributedB a.name.data.toList then (if seen.any (eqB a.name) then 5 else namesE (seen ++ [a.name]) r) else 4
def valuesE : List Att → Int
  | [] => 0
  | a :: r => if M1.isB a.value.data.toList then valuesE r else 2
def elemE (x : Nd) : Int :=
  if nilB x.text then (if namedB x.name.data.toList then (if namesE [] x.attrs = 0 then valuesE x.attrs else namesE [] x.attrs) else 4) else 7
def plainB (x : Nd) : Bool := nilB x.name && x.attrs.isEmpty && x.kids.isEmpty
def oneE (x : Nd) (p : Bool) : Int :=
  if x.kind = 1 then elemE x
  else if x.kind = 2 then (if plainB x then (if M1.isB x.text.data.toList && !(nilB x.text || p) then 0 else 2) else 7)
  else if x.kind = 3 then (if plainB x then (if M1.isB x.text.data.toList then 0 else 2) else 7)
  else 7
def mayE : Bool → List Nd → Int
  | _, [] => 0
  | p, .mk k n a t ks :: r => if oneE (.mk k n a t ks) p ≠ 0 then oneE (.mk k n a t ks) p else if mayE false ks ≠ 0 then mayE false ks else mayE (k == 2) r
termination_by _ l => SizeOf.sizeOf l
theorem mayE_nil (p : Bool) : mayE p [] = 0 := by rw [mayE]
theorem mayE_cons (p : Bool) (x : Nd) (r : List Nd) : mayE p (x :: r) = if oneE x p ≠ 0 then oneE x p else if mayE false x.kids ≠ 0 then mayE false x.kids else mayE (x.kind == 2) r := by
  cases x
  rw [mayE]
  rfl
def seqN : Int → List Nd → List (Nd × Int)
  | _, [] => []
  | a, .mk k n at_ t ks :: r => (.mk k n at_ t ks, a) :: (seqN 0 ks ++ seqN k r)
termination_by _ l => SizeOf.sizeOf l
theorem seqN_nil (a : Int) : seqN a [] = [] := by rw [seqN]
theorem seqN_cons (a : Int) (x : Nd) (r : List Nd) : seqN a (x :: r) = (x, a) :: (seqN 0 x.kids ++ seqN x.kind r) := by cases x; rw [seqN]; rfl
def all : List Nd → List Nd
  | [] => []
  | .mk k n at_ t ks :: r => .mk k n at_ t ks :: (all ks ++ all r)
termination_by l => SizeOf.sizeOf l
def weight : List Nd → Nat
  | [] => 0
  | .mk _ _ at_ _ ks :: r => 1 + at_.length + weight ks + weight r
termination_by l => SizeOf.sizeOf l
theorem weight_nil : weight [] = 0 := by rw [weight]
theorem weight_cons (x : Nd) (r : List Nd) : weight (x :: r) = 1 + x.attrs.length + weight x.kids + weight r := by cases x; rw [weight]; rfl
theorem weight_append (a b : List Nd) : weight (a ++ b) = weight a + weight b := by
  induction a with
  | nil => rw [List.nil_append, weight_nil]; omega
  | cons x r ih => rw [List.cons_append, weight_cons, weight_cons, ih]; omega
theorem length_le_weight (l : List Nd) : l.length ≤ weight l := by
  induction l with
  | nil => simp
  | cons x r ih => rw [weight_cons, List.length_cons]; omega
def firstE : List (Nd × Int) → Int
  | [] => 0
  | p :: r => if oneE p.1 (p.2 == 2) ≠ 0 then oneE p.1 (p.2 == 2) else firstE r
theorem firstE_append (a b : List (Nd × Int)) : firstE (a ++ b) = if firstE a ≠ 0 then firstE a else firstE b := by
  induction a with
  | nil => simp [firstE]
  | cons p r ih =>
    rw [List.cons_append, firstE, firstE, ih]
    split <;> simp_all
theorem may_eq (a : Int) (l : List Nd) : firstE (seqN a l) = mayE (a == 2) l := by
  induction l using Nd.ind generalizing a with
  | h0 => rw [seqN_nil, mayE_nil]; rfl
  | h1 k n at_ t ks r ih1 ih2 =>
    rw [seqN_cons, mayE_cons, firstE, firstE_append]
    show (if oneE _ (a == 2) ≠ 0 then _ else if firstE (seqN 0 ks) ≠ 0 then firstE (seqN 0 ks) else firstE (seqN k r)) = _
    rw [ih1, ih2]
    rfl
def sameA : List Att → List Att → Bool
  | [], [] => true
  | a :: r, b :: s => eqB a.name b.name && eqB a.value b.value && sameA r s
  | _, _ => false
def sameN : List Nd → List Nd → Bool
  | [], [] => true
  | .mk k n a t ks :: r, y :: s => k == y.kind && eqB n y.name && eqB t y.text && sameA a y.attrs && sameN ks y.kids && sameN r s
  | _, _ => false
termination_by l _ => SizeOf.sizeOf l
theorem sameN_nil : sameN [] [] = true := by rw [sameN]
theorem sameN_cons (x y : Nd) (r s : List Nd) : sameN (x :: r) (y :: s) = (x.kind == y.kind && eqB x.name y.name && eqB x.text y.text && sameA x.attrs y.attrs && sameN x.kids y.kids && sameN r s) := by
  cases x; rw [sameN]; rfl
theorem sameN_len : ∀ (a b : List Nd), a.length ≠ b.length → sameN a b = false := by
  intro a
  induction a with
  | nil => intro b h; cases b with | nil => simp at h | cons y s => rw [sameN] <;> simp
  | cons x r ih =>
    intro b h
    cases b with
    | nil => rw [sameN] <;> simp
    | cons y s => rw [sameN_cons, ih s (by simpa using h), Bool.and_false]
theorem sameA_len : ∀ (a b : List Att), a.length ≠ b.length → sameA a b = false := by
  intro a
  induction a with
  | nil => intro b h; cases b with | nil => simp at h | cons y s => rfl
  | cons x r ih =>
    intro b h
    cases b with
    | nil => rfl
    | cons y s => rw [sameA, ih s (by simpa using h), Bool.and_false]
theorem sameA_self (a : List Att) : sameA a a = true := by
  induction a with
  | nil => rfl
  | cons x r ih => rw [sameA, ih, eqB_self, eqB_self]; rfl
theorem sameN_self (a : List Nd) : sameN a a = true := by
  induction a using Nd.ind with
  | h0 => exact sameN_nil
  | h1 k n at_ t ks r ih1 ih2 =>
    rw [sameN_cons, eqB_self, eqB_self, sameA_self, ih2]
    show (k == k && true && true && true && sameN ks ks && true) = true
    rw [ih1]; simp
def filled (l : List Nd) : List Nd := l.filter fun x => !(x.kind == 2 && nilB x.text)
def withText (x : Nd) (t : ByteArray) : Nd := .mk x.kind x.name x.attrs t x.kids
def cat (s t : ByteArray) : ByteArray := ⟨(s.data.toList ++ t.data.toList).toArray⟩
def push (out : List Nd) (x : Nd) : List Nd :=
  if x.kind = 2 ∧ nilB x.text = true then out
  else match out.getLast? with
    | some y => if x.kind = 2 ∧ y.kind = 2 then out.dropLast ++ [withText y (cat y.text x.text)] else out ++ [x]
    | none => out ++ [x]
def merge (l : List Nd) : List Nd := l.foldl push []
def valueOf (name : ByteArray) : List Att → Option ByteArray
  | [] => none
  | a :: r => if eqB a.name name then some a.value else valueOf name r
theorem valueOf_drop (name : ByteArray) (l : List Att) (i : Nat) (h : i < l.length) : valueOf name (l.drop i) = if eqB l[i].name name then some l[i].value else valueOf name (l.drop (i + 1)) := by
  rw [List.drop_eq_getElem_cons h, valueOf]
def few (s : ByteArray) : ByteArray := if 30 < s.size then s.extract 0 30 else s
def fewA (a : Att) : Att := ⟨few a.name, few a.value⟩
def cut : List Nd → Nat → List Nd × Nat
  | [], m => ([], m)
  | _ :: _, 0 => ([], 0)
  | .mk k n a t ks :: r, m + 1 => (.mk k (few n) ((a.take 5).map fewA) (few t) (cut ks m).1 :: (cut r (cut ks m).2).1, (cut r (cut ks m).2).2)
termination_by l _ => SizeOf.sizeOf l
theorem cut_nil (m : Nat) : cut [] m = ([], m) := by rw [cut]
theorem cut_zero (l : List Nd) : cut l 0 = ([], 0) := by cases l <;> rw [cut]
theorem cut_cons (x : Nd) (r : List Nd) (m : Nat) : cut (x :: r) (m + 1) = (.mk x.kind (few x.name) ((x.attrs.take 5).map fewA) (few x.text) (cut x.kids m).1 :: (cut r (cut x.kids m).2).1, (cut r (cut x.kids m).2).2) := by
  cases x; rw [cut]; rfl
theorem cut_le (l : List Nd) (m : Nat) : (cut l m).2 ≤ m := by
  induction l using Nd.ind generalizing m with
  | h0 => rw [cut_nil]; exact Nat.le_refl _
  | h1 k n a t ks r ih1 ih2 =>
    cases m with
    | zero => rw [cut_zero]; exact Nat.le_refl _
    | succ m =>
      rw [cut_cons]
      exact Nat.le_trans (ih2 _) (Nat.le_succ_of_le (ih1 m))
end M3
end Go.Proofs.YteefodibpjgicaaGreat

namespace Go.Proofs.YteefodibpjgicaaGreat
structure Tok where
  kind : Int
  name : ByteArray
  attrs : List Att
  text : ByteArray
namespace M5
def bs (l : List UInt8) : ByteArray := ⟨l.toArray⟩
theorem bs_data (l : List UInt8) : (bs l).data.toList = l := by simp [bs]
theorem bs_of (s : ByteArray) : bs s.data.toList = s := by cases s; simp [bs]
def zero : Tok := ⟨0, ⟨#[]⟩, [], ⟨#[]⟩⟩
def blankB (c : UInt8) : Bool := c == 9 || c == 10 || c == 12 || c == 32
def letterB (c : UInt8) : Bool := decide (65 ≤ c.toNat ∧ c.toNat ≤ 90) || decide (97 ≤ c.toNat ∧ c.toNat ≤ 122)
def nameB (c : UInt8) : Bool := letterB c || decide (48 ≤ c.toNat ∧ c.toNat ≤ 57) || c == 45
def stopB (c : UInt8) : Bool := blankB c || c == 47 || c == 62 || c == 61
def startsB : List UInt8 → Bool
  | c :: d :: _ => c == 60 && (letterB d || d == 33 || d == 63 || d == 47)
  | _ => false
def findL (w : List UInt8) : List UInt8 → Nat
  | [] => 0
  | c :: r => if w.isPrefixOf (c :: r) then 0 else findL w r + 1
theorem findL_le (w l : List UInt8) : findL w l ≤ l.length := by
  induction l with
  | nil => exact Nat.le_refl _
  | cons c r ih => rw [findL]; split <;> simp; omega
def spanN (p : UInt8 → Bool) (l : List UInt8) : Nat := (l.takeWhile p).length
theorem spanN_le (p : UInt8 → Bool) (l : List UInt8) : spanN p l ≤ l.length := (List.takeWhile_prefix p).length_le
theorem span_take (p : UInt8 → Bool) (l : List UInt8) : l.take (spanN p l) = l.takeWhile p := by
  unfold spanN
  induction l with
  | nil => rfl
  | cons c r ih =>
    rw [List.takeWhile_cons]
    split
    · simp [ih]
    · simp
theorem span_drop (p : UInt8 → Bool) (l : List UInt8) : l.drop (spanN p l) = l.dropWhile p := by
  unfold spanN
  induction l with
  | nil => rfl
  | cons c r ih =>
    rw [List.takeWhile_cons, List.dropWhile_cons]
    split
    · simp [ih]
    · simp
def valueAt (nm : ByteArray) (r : List UInt8) : Att × List UInt8 × Bool :=
  match r.dropWhile blankB with
  | [] => (⟨nm, bs (M2.decode [])⟩, [], true)
  | q :: t =>
    if q = 34 ∨ q = 39 then
      (if findL [q] t < t.length then (⟨nm, bs (M2.decode (t.take (findL [q] t)))⟩, t.drop (findL [q] t + 1), true) else (⟨nm, ⟨#[]⟩⟩, [], false))
    else (⟨nm, bs (M2.decode ((q :: t).takeWhile fun c => !blankB c && c != 62))⟩, (q :: t).dropWhile (fun c => !blankB c && c != 62), true)
def attrAt (l : List UInt8) : Att × List UInt8 × Bool :=
  match (l.dropWhile fun c => !stopB c).dropWhile blankB with
  | 61 :: r => valueAt (bs (M1.fold (l.takeWhile fun c => !stopB c))) r
  | r => (⟨bs (M1.fold (l.takeWhile fun c => !stopB c)), ⟨#[]⟩⟩, r, true)
def addT (acc : List Att) (a : Att) : List Att := if acc.any (fun b => M3.eqB b.name a.name) then acc else acc ++ [a]
def attsF : Nat → List UInt8 → List Att → Option (List Att × List UInt8)
  | _, [], _ => none
  | 0, _ :: _, _ => none
  | n + 1, c :: r, acc =>
    if c = 62 then some (acc, r)
    else if stopB c then attsF n r acc
    else if (attrAt (c :: r)).2.2 then attsF n (attrAt (c :: r)).2.1 (addT acc (attrAt (c :: r)).1) else none
def beginR (l : List UInt8) : Tok × List UInt8 :=
  match attsF l.length ((l.drop 1).dropWhile nameB) [] with
  | some (as_, r) => (⟨1, bs (M1.fold ((l.drop 1).takeWhile nameB)), as_, ⟨#[]⟩⟩, r)
  | none => (zero, [])
def uptoR (w l : List UInt8) : List UInt8 × List UInt8 :=
  if findL w l < l.length then (l.take (findL w l), l.drop (findL w l + w.length)) else (l, [])
def tagR (l : List UInt8) : Tok × List UInt8 :=
  if startsB l then
    (match l with
    | _ :: d :: r =>
      if letterB d then beginR l
      else if [60, 33, 45, 45].isPrefixOf l then (⟨4, ⟨#[]⟩, [], bs (uptoR [45, 45, 62] (l.drop 4)).1⟩, (uptoR [45, 45, 62] (l.drop 4)).2)
      else if [60, 47, 62].isPrefixOf l then (zero, l.drop 3)
      else if d = 47 ∧ (r.head?.map letterB) = some true then
        (if findL [62] r < r.length then (⟨2, bs (M1.fold (r.takeWhile nameB)), [], ⟨#[]⟩⟩, r.drop (findL [62] r + 1)) else (zero, []))
      else (⟨4, ⟨#[]⟩, [], bs (uptoR [62] r).1⟩, (uptoR [62] r).2)
    | _ => (zero, l))
  else (zero, l)
def endsL (w : List UInt8) : List UInt8 → Option Nat
  | [] => none
  | c :: r =>
    if M1.fold ((c :: r).take w.length) == w && (match (c :: r).drop w.length with | d :: _ => blankB d || d == 47 || d == 62 | [] => false) then some 0
    else (endsL w r).map (· + 1)
def charsT (p : List UInt8) : List Tok := if p.isEmpty then [] else [⟨3, ⟨#[]⟩, [], bs (M2.decode p)⟩]
def asIs (p : List UInt8) : List Tok := if p.isEmpty then [] else [⟨3, ⟨#[]⟩, [], bs p⟩]
def endN (nm : List UInt8) (l : List UInt8) : Nat := (endsL ([60, 47] ++ nm) l).getD l.length
def toksF : Nat → List UInt8 → List UInt8 → List Tok
  | _, p, [] => charsT p
  | 0, p, _ :: _ => charsT p
  | n + 1, p, c :: r =>
    if startsB (c :: r) then
      charsT p ++ ((if (tagR (c :: r)).1.kind ≠ 0 then [(tagR (c :: r)).1] else []) ++
        (if (tagR (c :: r)).1.kind = 1 ∧ M3.rawB (tagR (c :: r)).1.name.data.toList = true then
          asIs ((tagR (c :: r)).2.take (endN (tagR (c :: r)).1.name.data.toList (tagR (c :: r)).2)) ++ toksF n [] ((tagR (c :: r)).2.drop (endN (tagR (c :: r)).1.name.data.toList (tagR (c :: r)).2))
        else toksF n [] (tagR (c :: r)).2))
    else toksF n (p ++ [c]) r
def tokens (l : List UInt8) : List Tok := toksF l.length [] l
def Suf (r l : List UInt8) : Prop := ∃ k, k ≤ l.length ∧ r = l.drop k
theorem Suf.refl (l : List UInt8) : Suf l l := ⟨0, Nat.zero_le _, rfl⟩
theorem Suf.nil (l : List UInt8) : Suf [] l := ⟨l.length, Nat.le_refl _, by simp⟩
theorem Suf.trans {a b c : List UInt8} (h : Suf a b) (k : Suf b c) : Suf a c := by
  obtain ⟨i, hi, rfl⟩ := h
  obtain ⟨j, hj, rfl⟩ := k
  refine ⟨j + i, ?_, by rw [List.drop_drop]⟩
  rw [List.length_drop] at hi
  omega
theorem Suf.drop (l : List UInt8) (k : Nat) : Suf (l.drop k) l := by
  by_cases h : k ≤ l.length
  · exact ⟨k, h, rfl⟩
  · exact ⟨l.length, Nat.le_refl _, by rw [List.drop_of_length_le (by omega), List.drop_length]⟩
theorem Suf.cons (c : UInt8) (r : List UInt8) : Suf r (c :: r) := ⟨1, by simp, rfl⟩
theorem Suf.dropWhile (p : UInt8 → Bool) (l : List UInt8) : Suf (l.dropWhile p) l := by
  rw [← span_drop]
  exact Suf.drop _ _
theorem Suf.le {r l : List UInt8} (h : Suf r l) : r.length ≤ l.length := by
  obtain ⟨k, hk, rfl⟩ := h
  rw [List.length_drop]
  omega
theorem Suf.at_ {r l : List UInt8} (h : Suf r l) : l.drop (l.length - r.length) = r := by
  obtain ⟨k, hk, rfl⟩ := h
  rw [List.length_drop]
  congr 1
  omega
theorem value_suf (nm : ByteArray) (r : List UInt8) : Suf (valueAt nm r).2.1 r := by
  unfold valueAt
  have h0 := Suf.dropWhile blankB r
  cases hd : r.dropWhile blankB with
  | nil => exact Suf.nil r
  | cons q t =>
    rw [hd] at h0
    dsimp only
    split
    · split
      · exact ((Suf.drop t _).trans (Suf.cons q t)).trans h0
      · exact Suf.nil r
    · exact (Suf.dropWhile (fun c => !blankB c && c != 62) (q :: t)).trans h0
theorem attr_suf (l : List UInt8) : Suf (attrAt l).2.1 l := by
  have h0 := (Suf.dropWhile blankB (l.dropWhile fun c => !stopB c)).trans (Suf.dropWhile _ l)
  unfold attrAt
  generalize (l.dropWhile fun c => !stopB c).dropWhile blankB = r at *
  split
  · exact ((value_suf _ _).trans (Suf.cons _ _)).trans h0
  · exact h0
theorem attr_lt (c : UInt8) (r : List UInt8) (h : stopB c = false) : (attrAt (c :: r)).2.1.length < (c :: r).length := by
  have h1 : ((c :: r).dropWhile fun c => !stopB c) = r.dropWhile fun c => !stopB c := by rw [List.dropWhile_cons, h]; rfl
  have h0 := (Suf.dropWhile blankB (r.dropWhile fun c => !stopB c)).trans (Suf.dropWhile _ r)
  unfold attrAt
  rw [h1]
  generalize (r.dropWhile fun c => !stopB c).dropWhile blankB = t at *
  have h2 := h0.le
  split
  · exact Nat.lt_of_le_of_lt (value_suf _ _).le (by simp only [List.length_cons] at *; omega)
  · show t.length < _
    simp only [List.length_cons]
    omega
theorem atts_suf (n : Nat) : ∀ (l : List UInt8) (acc : List Att) (as_ : List Att) (r : List UInt8), attsF n l acc = some (as_, r) → Suf r l := by
  induction n with
  | zero => intro l acc as_ r h; cases l <;> simp [attsF] at h
  | succ n ih =>
    intro l acc as_ r h
    cases l with
    | nil => simp [attsF] at h
    | cons c t =>
      rw [attsF] at h
      split at h
      · cases h; exact Suf.cons _ _
      · split at h
        · exact (ih _ _ _ _ h).trans (Suf.cons _ _)
        · split at h
          · exact (ih _ _ _ _ h).trans (attr_suf _)
          · cases h
theorem atts_fuel (n : Nat) : ∀ (m : Nat) (l : List UInt8) (acc : List Att), l.length ≤ n → l.length ≤ m → attsF n l acc = attsF m l acc := by
  induction n with
  | zero => intro m l acc h1 h2; cases l with
    | nil => cases m <;> rfl
    | cons c r => simp at h1
  | succ n ih =>
    intro m l acc h1 h2
    cases l with
    | nil => cases m <;> rfl
    | cons c r =>
      cases m with
      | zero => simp at h2
      | succ m =>
        rw [attsF, attsF]
        simp only [List.length_cons] at h1 h2
        by_cases h62 : c = 62
        · rw [if_pos h62, if_pos h62]
        rw [if_neg h62, if_neg h62]
        cases hs : stopB c
        · have := attr_lt c r hs
          simp only [List.length_cons] at this
          simp only [Bool.false_eq_true, if_false]
          rw [ih m _ _ (by omega) (by omega)]
        · simp only [if_true]
          rw [ih m _ _ (by omega) (by omega)]
theorem begin_suf (l : List UInt8) : Suf (beginR l).2 l := by
  unfold beginR
  cases h : attsF l.length ((l.drop 1).dropWhile nameB) [] with
  | none => exact Suf.nil l
  | some p => exact ((atts_suf _ _ _ _ _ h).trans (Suf.dropWhile _ _)).trans (Suf.drop _ _)
theorem upto_suf (w l : List UInt8) : Suf (uptoR w l).2 l := by
  unfold uptoR
  split
  · exact Suf.drop _ _
  · exact Suf.nil l
theorem tag_suf (l : List UInt8) : Suf (tagR l).2 l := by
  unfold tagR
  split
  · split
    · rename_i c d r _
      have h0 : Suf r (c :: d :: r) := (Suf.cons d r).trans (Suf.cons c _)
      split
      · exact begin_suf _
      · split
        · exact (upto_suf _ _).trans (Suf.drop _ _)
        · split
          · exact Suf.drop _ _
          · split
            · split
              · exact (Suf.drop _ _).trans h0
              · exact Suf.nil _
            · exact (upto_suf _ _).trans h0
    · exact Suf.refl _
  · exact Suf.refl _
end M5
end Go.Proofs.YteefodibpjgicaaGreat

namespace Go.Proofs.YteefodibpjgicaaGreat.M5
def attsR (l : List UInt8) (acc : List Att) : Option (List Att × List UInt8) := attsF l.length l acc
theorem attsR_nil (acc : List Att) : attsR [] acc = none := rfl
theorem attsR_cons (c : UInt8) (r : List UInt8) (acc : List Att) : attsR (c :: r) acc =
    if c = 62 then some (acc, r) else if stopB c then attsR r acc
    else if (attrAt (c :: r)).2.2 then attsR (attrAt (c :: r)).2.1 (addT acc (attrAt (c :: r)).1) else none := by
  show attsF (r.length + 1) (c :: r) acc = _
  rw [attsF]
  by_cases hc : c = 62
  · rw [if_pos hc, if_pos hc]
  · rw [if_neg hc, if_neg hc]
    cases hst : stopB c
    · rw [if_neg (Bool.false_ne_true), if_neg (Bool.false_ne_true)]
      have hlt := attr_lt c r hst
      rw [List.length_cons] at hlt
      rw [attsR, atts_fuel r.length (attrAt (c :: r)).2.1.length (attrAt (c :: r)).2.1 _ (by omega) (Nat.le_refl _)]
    · rfl
theorem attsR_suf (l : List UInt8) (acc as_ : List Att) (r : List UInt8) (h : attsR l acc = some (as_, r)) : Suf r l := atts_suf l.length l acc as_ r h
theorem begin_eq (l : List UInt8) : beginR l = match attsR ((l.drop 1).dropWhile nameB) [] with
  | some (as_, r) => (⟨1, bs (M1.fold ((l.drop 1).takeWhile nameB)), as_, ⟨#[]⟩⟩, r)
  | none => (zero, []) := by
  have hs := (Suf.dropWhile nameB (l.drop 1)).le
  have hd : (l.drop 1).length ≤ l.length := by rw [List.length_drop]; omega
  rw [beginR, attsR, atts_fuel l.length ((l.drop 1).dropWhile nameB).length _ [] (by omega) (Nat.le_refl _)]
  try (cases attsF ((l.drop 1).dropWhile nameB).length ((l.drop 1).dropWhile nameB) [] <;> rfl)
theorem tag_lt (l : List UInt8) (h : startsB l = true) : (tagR l).2.length < l.length := by
  match l with
  | [] => cases h
  | [c] => cases h
  | c :: d :: r =>
    have hlen : (c :: d :: r).length = r.length + 2 := rfl
    rw [tagR, if_pos h]
    show (if letterB d then _ else _ : Tok × List UInt8).2.length < _
    split
    · rw [begin_eq]
      cases ha : attsR (((c :: d :: r).drop 1).dropWhile nameB) [] with
      | none => show 0 < _; omega
      | some p =>
        have h1 := (attsR_suf _ _ p.1 p.2 ha).le
        have h2 := (Suf.dropWhile nameB ((c :: d :: r).drop 1)).le
        have h3 : ((c :: d :: r).drop 1).length = r.length + 1 := rfl
        show p.2.length < _
        omega
    · split
      · have h1 := (upto_suf [45, 45, 62] ((c :: d :: r).drop 4)).le
        rw [List.length_drop] at h1
        show (uptoR [45, 45, 62] ((c :: d :: r).drop 4)).2.length < _
        omega
      · split
        · show ((c :: d :: r).drop 3).length < _
          rw [List.length_drop]
          omega
        · split
          · split
            · show (r.drop _).length < _
              rw [List.length_drop]
              omega
            · show 0 < _
              omega
          · have h1 := (upto_suf [62] r).le
            show (uptoR [62] r).2.length < _
            omega
theorem toks_fuel (n : Nat) : ∀ (m : Nat) (p l : List UInt8), l.length ≤ n → l.length ≤ m → toksF n p l = toksF m p l := by
  induction n with
  | zero => intro m p l h1 h2; cases l with
    | nil => cases m <;> rfl
    | cons c r => simp at h1
  | succ n ih =>
    intro m p l h1 h2
    cases l with
    | nil => cases m <;> rfl
    | cons c r =>
      cases m with
      | zero => simp at h2
      | succ m =>
        rw [toksF, toksF]
        simp only [List.length_cons] at h1 h2
        cases hs : startsB (c :: r)
        · rw [if_neg Bool.false_ne_true, if_neg Bool.false_ne_true, ih m _ _ (by omega) (by omega)]
        · have hlt := tag_lt (c :: r) hs
          rw [List.length_cons] at hlt
          rw [if_pos rfl, if_pos rfl, ih m _ (tagR (c :: r)).2 (by omega) (by omega)]
          rw [ih m _ ((tagR (c :: r)).2.drop _) (by rw [List.length_drop]; omega) (by rw [List.length_drop]; omega)]
def toksR (p l : List UInt8) : List Tok := toksF l.length p l
theorem tokens_eq (l : List UInt8) : tokens l = toksR [] l := rfl
theorem toksR_nil (p : List UInt8) : toksR p [] = charsT p := by rw [toksR, toksF]
def rawT (t : Tok) (l : List UInt8) : List Tok × List UInt8 :=
  if t.kind = 1 ∧ M3.rawB t.name.data.toList = true then (asIs (l.take (endN t.name.data.toList l)), l.drop (endN t.name.data.toList l)) else ([], l)
theorem toksR_text (p : List UInt8) (c : UInt8) (r : List UInt8) (h : startsB (c :: r) = false) : toksR p (c :: r) = toksR (p ++ [c]) r := by
  show toksF (r.length + 1) p (c :: r) = _
  rw [toksF, h, if_neg Bool.false_ne_true]
  rfl
theorem toksR_tag (p : List UInt8) (l : List UInt8) (h : startsB l = true) :
    toksR p l = charsT p ++ ((if (tagR l).1.kind ≠ 0 then [(tagR l).1] else []) ++ ((rawT (tagR l).1 (tagR l).2).1 ++ toksR [] (rawT (tagR l).1 (tagR l).2).2)) := by
  cases l with
  | nil => cases h
  | cons c r =>
    have hlt := tag_lt (c :: r) h
    rw [List.length_cons] at hlt
    show toksF (r.length + 1) p (c :: r) = _
    rw [toksF, h, if_pos rfl]
    congr 2
    by_cases hr : (tagR (c :: r)).1.kind = 1 ∧ M3.rawB (tagR (c :: r)).1.name.data.toList = true
    · rw [if_pos hr, rawT, if_pos hr]
      congr 1
      exact toks_fuel _ _ _ _ (by rw [List.length_drop]; omega) (Nat.le_refl _)
    · rw [if_neg hr, rawT, if_neg hr]
      exact toks_fuel _ _ _ _ (by omega) (Nat.le_refl _)
end Go.Proofs.YteefodibpjgicaaGreat.M5

namespace Go.Proofs.YteefodibpjgicaaGreat.M5
theorem findL_span (q : UInt8) (t : List UInt8) : findL [q] t = spanN (· != q) t := by
  induction t with
  | nil => rfl
  | cons c r ih =>
    rw [findL]
    unfold spanN at *
    rw [List.takeWhile_cons]
    by_cases h : q = c
    · subst h
      simp [List.isPrefixOf]
    · have h1 : [q].isPrefixOf (c :: r) = false := by
        show (q == c && _) = false
        rw [beq_eq_false_iff_ne.2 h]
        rfl
      have h2 : (c != q) = true := bne_iff_ne.2 (fun e => h e.symm)
      rw [h1, h2, if_pos rfl, ih]
      rfl
def quoted (q : UInt8) (t : List UInt8) : List UInt8 × List UInt8 := (t.takeWhile (· != q), (t.dropWhile (· != q)).drop 1)
def bareB (c : UInt8) : Bool := !blankB c && c != 62
def valC : List UInt8 → List UInt8 × List UInt8
  | [] => ([], [])
  | q :: t => if q = 34 ∨ q = 39 then quoted q t else ((q :: t).takeWhile bareB, (q :: t).dropWhile bareB)
def keyB (c : UInt8) : Bool := !stopB c
def attC (l : List UInt8) : Att × List UInt8 :=
  match (l.dropWhile keyB).dropWhile blankB with
  | 61 :: r => (⟨bs (M1.fold (l.takeWhile keyB)), bs (M2.decode (valC (r.dropWhile blankB)).1)⟩, (valC (r.dropWhile blankB)).2)
  | r => (⟨bs (M1.fold (l.takeWhile keyB)), ⟨#[]⟩⟩, r)
theorem val_eq (nm : ByteArray) (r : List UInt8) :
    ((valueAt nm r).2.2 = true → (valueAt nm r).1 = ⟨nm, bs (M2.decode (valC (r.dropWhile blankB)).1)⟩ ∧ (valueAt nm r).2.1 = (valC (r.dropWhile blankB)).2) ∧
    ((valueAt nm r).2.2 = false → (valC (r.dropWhile blankB)).2 = []) := by
  unfold valueAt
  cases r.dropWhile blankB with
  | nil => exact ⟨fun _ => ⟨rfl, rfl⟩, (fun h => nomatch h)⟩
  | cons q t =>
    dsimp only
    rw [valC]
    by_cases hq : q = 34 ∨ q = 39
    · rw [if_pos hq, if_pos hq]
      have hd : t.drop (findL [q] t) = t.dropWhile (· != q) := by rw [findL_span, span_drop]
      by_cases hf : findL [q] t < t.length
      · rw [if_pos hf]
        refine ⟨fun _ => ⟨?_, ?_⟩, (fun h => nomatch h)⟩
        · show (⟨nm, bs (M2.decode (t.take (findL [q] t)))⟩ : Att) = _
          rw [findL_span, span_take]
          rfl
        · show t.drop (findL [q] t + 1) = (t.dropWhile (· != q)).drop 1
          rw [← hd, List.drop_drop]
      · rw [if_neg hf]
        refine ⟨(fun h => nomatch h), fun _ => ?_⟩
        show (t.dropWhile (· != q)).drop 1 = []
        rw [← hd, List.drop_of_length_le (by omega : t.length ≤ findL [q] t)]
        rfl
    · rw [if_neg hq, if_neg hq]
      exact ⟨fun _ => ⟨rfl, rfl⟩, (fun h => nomatch h)⟩
theorem attrAt_61 (l r : List UInt8) (h : (l.dropWhile keyB).dropWhile blankB = 61 :: r) : attrAt l = valueAt (bs (M1.fold (l.takeWhile keyB))) r := by
  have e : (fun c => !stopB c) = keyB := rfl
  unfold attrAt
  rw [e, h]
  rfl
theorem attC_61 (l r : List UInt8) (h : (l.dropWhile keyB).dropWhile blankB = 61 :: r) : attC l = (⟨bs (M1.fold (l.takeWhile keyB)), bs (M2.decode (valC (r.dropWhile blankB)).1)⟩, (valC (r.dropWhile blankB)).2) := by
  unfold attC
  rw [h]
  rfl
theorem attrAt_ne (l : List UInt8) (h : ∀ r, (l.dropWhile keyB).dropWhile blankB ≠ 61 :: r) : attrAt l = (⟨bs (M1.fold (l.takeWhile keyB)), ⟨#[]⟩⟩, (l.dropWhile keyB).dropWhile blankB, true) := by
  have e : (fun c => !stopB c) = keyB := rfl
  unfold attrAt
  rw [e]
  split
  · rename_i h'
    exact absurd h' (h _)
  · rfl
theorem attC_ne (l : List UInt8) (h : ∀ r, (l.dropWhile keyB).dropWhile blankB ≠ 61 :: r) : attC l = (⟨bs (M1.fold (l.takeWhile keyB)), ⟨#[]⟩⟩, (l.dropWhile keyB).dropWhile blankB) := by
  unfold attC
  split
  · rename_i h'
    exact absurd h' (h _)
  · rfl
theorem att_eq (l : List UInt8) :
    ((attrAt l).2.2 = true → (attrAt l).1 = (attC l).1 ∧ (attrAt l).2.1 = (attC l).2) ∧ ((attrAt l).2.2 = false → (attC l).2 = []) := by
  by_cases h : ∃ r, (l.dropWhile keyB).dropWhile blankB = 61 :: r
  · obtain ⟨r, h⟩ := h
    rw [attrAt_61 l r h, attC_61 l r h]
    exact val_eq _ r
  · have h' : ∀ r, (l.dropWhile keyB).dropWhile blankB ≠ 61 :: r := fun r e => h ⟨r, e⟩
    rw [attrAt_ne l h', attC_ne l h']
    exact ⟨fun _ => ⟨rfl, rfl⟩, (fun h => nomatch h)⟩
def overB (c : UInt8) : Bool := blankB c || c == 47 || c == 61
theorem atts_over (l : List UInt8) (acc : List Att) : attsR l acc = attsR (l.dropWhile overB) acc := by
  induction l with
  | nil => rfl
  | cons c r ih =>
    rw [List.dropWhile_cons]
    cases h : overB c
    · rfl
    · rw [if_pos rfl, attsR_cons]
      have h62 : c ≠ 62 := by
        intro e
        subst e
        exact absurd h (by decide)
      have hs : stopB c = true := by
        unfold overB at h
        unfold stopB
        revert h
        cases blankB c <;> cases (c == 47) <;> cases (c == 61) <;> cases (c == 62) <;> simp
      rw [if_neg h62, if_pos hs, ih]
theorem atts_one (c : UInt8) (r : List UInt8) (acc : List Att) (ho : overB c = false) (h62 : c ≠ 62) : attsR (c :: r) acc = attsR (attC (c :: r)).2 (addT acc (attC (c :: r)).1) := by
  have hs : stopB c = false := by
    unfold overB at ho
    unfold stopB
    have : (c == 62) = false := beq_eq_false_iff_ne.2 h62
    rw [this]
    revert ho
    cases blankB c <;> cases (c == 47) <;> cases (c == 61) <;> simp
  rw [attsR_cons, if_neg h62, hs, if_neg Bool.false_ne_true]
  obtain ⟨h1, h2⟩ := att_eq (c :: r)
  cases ho : (attrAt (c :: r)).2.2
  · rw [if_neg Bool.false_ne_true, h2 ho, attsR_nil]
  · rw [if_pos rfl, (h1 ho).1, (h1 ho).2]
theorem over_head (l : List UInt8) (c : UInt8) (r : List UInt8) (h : l.dropWhile overB = c :: r) : overB c = false := by
  induction l with
  | nil => cases h
  | cons d t ih =>
    rw [List.dropWhile_cons] at h
    cases hd : overB d
    · rw [hd, if_neg Bool.false_ne_true] at h
      cases h
      exact hd
    · rw [hd, if_pos rfl] at h
      exact ih h
theorem valC_suf (l : List UInt8) : Suf (valC l).2 l := by
  cases l with
  | nil => exact Suf.refl _
  | cons q t =>
    rw [valC]
    split
    · exact ((Suf.drop _ 1).trans (Suf.dropWhile _ t)).trans (Suf.cons q t)
    · exact Suf.dropWhile _ _
theorem valC_fst_le (l : List UInt8) : (valC l).1.length ≤ l.length := by
  cases l with
  | nil => exact Nat.le_refl _
  | cons q t =>
    rw [valC]
    split
    · have := (List.takeWhile_prefix (l := t) (· != q)).length_le
      show (t.takeWhile (· != q)).length ≤ t.length + 1
      omega
    · exact (List.takeWhile_prefix _).length_le
theorem attC_name_le (l : List UInt8) : (attC l).1.name.size ≤ l.length := by
  have e : (attC l).1.name = bs (M1.fold (l.takeWhile keyB)) := by
    unfold attC
    split <;> rfl
  rw [e]
  show (M1.fold (l.takeWhile keyB)).toArray.size ≤ _
  rw [List.size_toArray, M1.fold, List.length_map]
  exact (List.takeWhile_prefix _).length_le
theorem attC_lt (c : UInt8) (r : List UInt8) (ho : overB c = false) (h62 : c ≠ 62) : (attC (c :: r)).2.length < (c :: r).length := by
  have hk : keyB c = true := by
    unfold keyB stopB
    unfold overB at ho
    have : (c == 62) = false := beq_eq_false_iff_ne.2 h62
    rw [this]
    revert ho
    cases blankB c <;> cases (c == 47) <;> cases (c == 61) <;> simp
  have h1 : (c :: r).dropWhile keyB = r.dropWhile keyB := by rw [List.dropWhile_cons, hk]; rfl
  have h0 := (Suf.dropWhile blankB (r.dropWhile keyB)).trans (Suf.dropWhile keyB r)
  unfold attC
  rw [h1]
  generalize (r.dropWhile keyB).dropWhile blankB = t at *
  have h2 := h0.le
  split
  · rename_i x
    have := ((valC_suf _).trans (Suf.dropWhile blankB x)).le
    simp only [List.length_cons] at *
    omega
  · show t.length < _
    simp only [List.length_cons]
    omega
end Go.Proofs.YteefodibpjgicaaGreat.M5

namespace Go.Proofs.YteefodibpjgicaaGreat.M5
theorem index_find (w l : List UInt8) (hw : w ≠ []) : Lib.index l w = if findL w l < l.length then (findL w l : Int) else -1 := by
  induction l with
  | nil =>
    cases w with
    | nil => exact absurd rfl hw
    | cons a b => rfl
  | cons c r ih =>
    rw [Lib.index, findL]
    cases hp : w.isPrefixOf (c :: r)
    · rw [if_neg Bool.false_ne_true, if_neg Bool.false_ne_true, ih]
      simp only [List.length_cons]
      by_cases h : findL w r < r.length
      · have hne : ((findL w r : Int) == -1) = false := by rw [beq_eq_false_iff_ne]; omega
        rw [if_pos h, if_pos (show findL w r + 1 < r.length + 1 by omega), hne, if_neg Bool.false_ne_true]
        omega
      · rw [if_neg h, if_neg (show ¬ findL w r + 1 < r.length + 1 by omega)]
        rfl
    · rw [if_pos rfl, if_pos rfl, if_pos (by simp)]
      rfl
theorem cut_upto (w l : List UInt8) (hw : w ≠ []) : (Lib.cut l w).1 = (uptoR w l).1 ∧ (Lib.cut l w).2.1 = (uptoR w l).2 := by
  unfold Lib.cut uptoR
  rw [index_find w l hw]
  by_cases h : findL w l < l.length
  · rw [if_pos h, if_pos h, if_pos (by omega)]
    exact ⟨by rw [Int.toNat_natCast], by rw [Int.toNat_natCast]⟩
  · rw [if_neg h, if_neg h, if_neg (by decide)]
    exact ⟨rfl, rfl⟩
def endR (r : List UInt8) : Tok × List UInt8 := if findL [62] r < r.length then (⟨2, bs (M1.fold (r.takeWhile nameB)), [], ⟨#[]⟩⟩, r.drop (findL [62] r + 1)) else (zero, [])
theorem drop_name (r : List UInt8) : (r.dropWhile nameB).dropWhile (· != 62) = r.drop (findL [62] r) := by
  rw [findL_span, span_drop]
  induction r with
  | nil => rfl
  | cons c t ih =>
    rw [List.dropWhile_cons]
    cases hn : nameB c
    · rfl
    · have h62 : (c != 62) = true := by
        rw [bne_iff_ne]
        intro e
        subst e
        exact absurd hn (by decide)
      rw [if_pos rfl, ih, List.dropWhile_cons, h62, if_pos rfl]
def remarkR (w l : List UInt8) : Tok × List UInt8 := (⟨4, ⟨#[]⟩, [], bs (uptoR w l).1⟩, (uptoR w l).2)
end Go.Proofs.YteefodibpjgicaaGreat.M5

namespace Go.Proofs.YteefodibpjgicaaGreat.M5
def plainN : List UInt8 → Nat
  | [] => 0
  | c :: r => if startsB (c :: r) then 0 else plainN r + 1
theorem plainN_le (l : List UInt8) : plainN l ≤ l.length := by
  induction l with
  | nil => exact Nat.le_refl _
  | cons c r ih => rw [plainN]; split <;> simp; omega
theorem plainN_yes (l : List UInt8) (h : startsB l = true) : plainN l = 0 := by
  cases l with
  | nil => cases h
  | cons c r => rw [plainN, if_pos h]
theorem plainN_skip (n : Nat) : ∀ (l : List UInt8), n ≤ l.length → (∀ k, k < n → startsB (l.drop k) = false) → plainN l = n + plainN (l.drop n) := by
  induction n with
  | zero => intro l _ _; simp
  | succ n ih =>
    intro l h1 h2
    cases l with
    | nil => simp at h1
    | cons c r =>
      have h0 := h2 0 (by omega)
      rw [List.drop_zero] at h0
      rw [plainN, h0, if_neg Bool.false_ne_true, List.drop_succ_cons, ih r (by simpa using h1) (fun k hk => by
        have := h2 (k + 1) (by omega)
        simpa using this)]
      omega
theorem starts_head (l : List UInt8) (h : startsB l = true) : ∃ r, l = 60 :: r := by
  match l with
  | [] => cases h
  | [c] => cases h
  | c :: d :: r =>
    have : (c == 60 && (letterB d || d == 33 || d == 63 || d == 47)) = true := h
    rw [Bool.and_eq_true] at this
    rw [beq_iff_eq.1 this.1]
    exact ⟨_, rfl⟩
theorem toksR_plain (l : List UInt8) : ∀ p, toksR p l = toksR (p ++ l.take (plainN l)) (l.drop (plainN l)) := by
  induction l with
  | nil => intro p; simp [plainN]
  | cons c r ih =>
    intro p
    rw [plainN]
    cases h : startsB (c :: r)
    · rw [if_neg Bool.false_ne_true, toksR_text p c r h, ih, List.take_succ_cons, List.drop_succ_cons, List.append_assoc]
      rfl
    · rw [if_pos rfl]
      simp
theorem plain_starts (l : List UInt8) (h : l.drop (plainN l) ≠ []) : startsB (l.drop (plainN l)) = true := by
  induction l with
  | nil => exact absurd rfl h
  | cons c r ih =>
    cases hs : startsB (c :: r)
    · have e : plainN (c :: r) = plainN r + 1 := by rw [plainN, hs, if_neg Bool.false_ne_true]
      rw [e, List.drop_succ_cons] at h ⊢
      exact ih h
    · rw [plainN_yes _ hs, List.drop_zero, hs]
theorem plain_pos (l : List UInt8) (hl : l ≠ []) (h : startsB l = false) : 0 < plainN l := by
  cases l with
  | nil => exact absurd rfl hl
  | cons c r => rw [plainN, h, if_neg Bool.false_ne_true]; omega
theorem toks_step (l : List UInt8) (hl : l ≠ []) (h : startsB l = false) : toksR [] l = ⟨3, ⟨#[]⟩, [], bs (M2.decode (l.take (plainN l)))⟩ :: toksR [] (l.drop (plainN l)) := by
  have hp := plain_pos l hl h
  have hne : l.take (plainN l) ≠ [] := by
    intro e
    have := congrArg List.length e
    rw [List.length_take] at this
    cases l with
    | nil => exact absurd rfl hl
    | cons c r => simp at this; omega
  have hch : charsT (l.take (plainN l)) = [⟨3, ⟨#[]⟩, [], bs (M2.decode (l.take (plainN l)))⟩] := by
    rw [charsT, if_neg]
    rw [Bool.not_eq_true, List.isEmpty_eq_false_iff]
    exact hne
  rw [toksR_plain l [], List.nil_append]
  by_cases hd : l.drop (plainN l) = []
  · rw [hd, toksR_nil, toksR_nil, hch]
    rfl
  · have hs := plain_starts l hd
    rw [toksR_tag _ _ hs, toksR_tag [] _ hs, hch]
    rfl
theorem toks_tag (l : List UInt8) (h : startsB l = true) :
    toksR [] l = (if (tagR l).1.kind ≠ 0 then [(tagR l).1] else []) ++ ((rawT (tagR l).1 (tagR l).2).1 ++ toksR [] (rawT (tagR l).1 (tagR l).2).2) := by
  rw [toksR_tag [] l h]
  rfl
def charsC (l : List UInt8) : Tok := ⟨3, ⟨#[]⟩, [], bs (M2.decode (l.take (plainN l)))⟩
def contC (n : Nat) (l : List UInt8) : Tok := if n = 0 then zero else ⟨3, ⟨#[]⟩, [], bs (l.take n)⟩
end Go.Proofs.YteefodibpjgicaaGreat.M5

namespace Go.Proofs.YteefodibpjgicaaGreat
open Go.Shelf Go.RowKit
def Tryz.lays169_ren : Go.Shelf.Ren := ⟨fun | 169 => 107 | n => n, fun | 70 => 118 | 9 => 9 | 0 => 0 | 72 => 120 | 37 => 22 | 127 => 129 | 3 => 3 | 5 => 5 | n => n, fun | n => n⟩
theorem Tryz.lays169 : Go.Proofs.Lays.n169 Tryz.prog Tryz.lays169_ren := {
  mixed := by kernel_rfl
  f169 := Tryz.func107.trans (congrArg some (by kernel_rfl))
  t0 := Tryz.underlying0
  a0 := Tryz.isAgg0
  z0 := Tryz.sizeOf0
  v0 := Tryz.zeroValue0
  t3 := Tryz.underlying3
  a3 := Tryz.isAgg3
  z3 := Tryz.sizeOf3
  v3 := Tryz.zeroValue3
  t9 := Tryz.underlying9
  a9 := Tryz.isAgg9
  z9 := Tryz.sizeOf9
  v9 := Tryz.zeroValue9
  t37 := Tryz.underlying22
  a37 := Tryz.isAgg22
  z37 := Tryz.sizeOf22
  v37 := Tryz.zeroValue22
  t70 := Tryz.underlying118
  a70 := Tryz.isAgg118
  z70 := Tryz.sizeOf118
  v70 := Tryz.zeroValue118
  t72 := Tryz.underlying120
  a72 := Tryz.isAgg120
  z72 := Tryz.sizeOf120
  v72 := Tryz.zeroValue120
  t127 := Tryz.underlying129
  a127 := Tryz.isAgg129
  z127 := Tryz.sizeOf129
  v127 := Tryz.zeroValue129 }
theorem Tryz.Builder_Extra_169 : Builder.Extra Tryz.prog Tryz.lays169_ren := {
  sizeBuilder := by kernel_rfl
  liesBuilder := by kernel_rfl
  t5 := Tryz.underlying5
  a5 := Tryz.isAgg5
  z5 := Tryz.sizeOf5
  v5 := Tryz.zeroValue5
  infoByte := by kernel_rfl
  cellsByte := by kernel_rfl
  sizeByte := by kernel_rfl
  neB5 := by decide }
theorem bString (B b : Nat) (l : List UInt8) (w : World) (h : Lib.IsBuilderF 120 5 B b (Lib.byteCells l) w) (hBw : B ≤ w.heap.size) :
    Calls Tryz.prog 107 #[.pointer (some ⟨b, 0, none⟩)] w fun e w' => e = .returned (.string ⟨l.toArray⟩) ∧ (Lib.IsBuilderF 120 5 B b (Lib.byteCells l) w' ∧ Below B w w' ∧ Lib.OthersKept 5 (some b) w w') := Any.Builder_String_any_k Tryz.lays169 Tryz.Builder_Extra_169 B b l w h hBw
def Tryz.lays242_ren : Go.Shelf.Ren := ⟨fun | 242 => 153 | 278 => 154 | n => n, fun | 37 => 22 | 21 => 21 | 51 => 151 | 4 => 4 | 5 => 5 | 46 => 143 | 72 => 120 | n => n, fun | n => n⟩
theorem Tryz.lays242 : Go.Proofs.Lays.n242 Tryz.prog Tryz.lays242_ren := {
  mixed := by kernel_rfl
  f242 := Tryz.func153.trans (congrArg some (by kernel_rfl))
  f278 := Tryz.func154.trans (congrArg some (by kernel_rfl))
  t4 := Tryz.underlying4
  a4 := Tryz.isAgg4
  z4 := Tryz.sizeOf4
  v4 := Tryz.zeroValue4
  t5 := Tryz.underlying5
  a5 := Tryz.isAgg5
  z5 := Tryz.sizeOf5
  v5 := Tryz.zeroValue5
  t21 := Tryz.underlying21
  a21 := Tryz.isAgg21
  z21 := Tryz.sizeOf21
  v21 := Tryz.zeroValue21
  t37 := Tryz.underlying22
  a37 := Tryz.isAgg22
  z37 := Tryz.sizeOf22
  v37 := Tryz.zeroValue22
  t46 := Tryz.underlying143
  a46 := Tryz.isAgg143
  z46 := Tryz.sizeOf143
  v46 := Tryz.zeroValue143
  t51 := Tryz.underlying151
  a51 := Tryz.isAgg151
  z51 := Tryz.sizeOf151
  v51 := Tryz.zeroValue151 }
theorem Tryz.Builder_Extra_242 : Builder.Extra Tryz.prog Tryz.lays242_ren := {
  sizeBuilder := by kernel_rfl
  liesBuilder := by kernel_rfl
  t5 := Tryz.underlying5
  a5 := Tryz.isAgg5
  z5 := Tryz.sizeOf5
  v5 := Tryz.zeroValue5
  infoByte := by kernel_rfl
  cellsByte := by kernel_rfl
  sizeByte := by kernel_rfl
  neB5 := by decide }
theorem u8AppendRune (B : Nat) (v : Value) (n : Nat) (xs : List Value) (r : Int) (hr0 : -2147483648 ≤ r) (hr1 : r ≤ 2147483647) (w : World) (hown : w.ownsRowF B 5 1 v n xs) (hlen : n + 4 ≤ 140737488355328) (hBw : B ≤ w.heap.size) :
    Calls Tryz.prog 153 #[v, .int .i32 r] w fun e w' => ∃ v', e = .returned v' ∧ w'.ownsRowF B 5 1 v' (n + (Lib.runeCells r).length) (xs ++ Lib.runeCells r) ∧ ∃ o, (w.alloc o).grownBy w' v.ownBlock :=
  Any.utf8_AppendRune_own Tryz.lays242 Tryz.Builder_Extra_242 B v n xs r hr0 hr1 w hown hlen hBw
def Tryz.lays206_ren : Go.Shelf.Ren := ⟨fun | 206 => 113 | n => n, fun | 9 => 9 | 4 => 4 | 3 => 3 | n => n, fun | n => n⟩
def Tryz.lays99_ren : Go.Shelf.Ren := ⟨fun | 99 => 104 | 206 => 113 | n => n, fun | 9 => 9 | 4 => 4 | 3 => 3 | n => n, fun | n => n⟩
theorem Tryz.lays99 : Go.Proofs.Lays.n99 Tryz.prog Tryz.lays99_ren := {
  mixed := by kernel_rfl
  f99 := Tryz.func104.trans (congrArg some (by kernel_rfl))
  f206 := Tryz.func113.trans (congrArg some (by kernel_rfl))
  t3 := Tryz.underlying3
  a3 := Tryz.isAgg3
  z3 := Tryz.sizeOf3
  v3 := Tryz.zeroValue3
  t4 := Tryz.underlying4
  a4 := Tryz.isAgg4
  z4 := Tryz.sizeOf4
  v4 := Tryz.zeroValue4
  t9 := Tryz.underlying9
  a9 := Tryz.isAgg9
  z9 := Tryz.sizeOf9
  v9 := Tryz.zeroValue9 }
theorem hasPrefix_any (s p : ByteArray) (w : World) :
    Calls Tryz.prog 104 #[.string s, .string p] w fun e w' => e = .returned (.bool (Lib.hasPrefix s.data.toList p.data.toList)) ∧ w' = w := Any.strings_HasPrefix Tryz.lays99 s p w
theorem sizeB : (Tryz.prog.info? 120).map (·.size) = some 2 := by kernel_rfl
theorem infoU8 : (Tryz.prog.info? 5).map (fun i => (i.zero, i.size, i.bytes)) = some (some (.int .u8 0), 1, 1) := by kernel_rfl
set_option maxHeartbeats 1000000 in
set_option maxRecDepth 100000 in
theorem copyCheck_used (b : Nat) (w : World) (h0 : w.cell? ⟨b, 0, none⟩ = some (.pointer (some ⟨b, 0, none⟩))) :
    Calls Tryz.prog 114 #[.pointer (some ⟨b, 0, none⟩)] w fun e w' => e = .returned (.tuple #[]) ∧ w' = w := by
  obtain ⟨j, hj, _⟩ := Option.map_eq_some_iff.1 sizeB
  go_enter Tryz.func114, Tryz.ntmps114
  go_wp2
  rw [Lib.run_neq_ptr_same w _ Tryz.underlying118 hj]
  go_wp2
  go_end0
  exact ⟨rfl, rfl⟩
set_option maxHeartbeats 1000000 in
set_option maxRecDepth 100000 in
theorem copyCheck_fresh (b : Nat) (w : World) (h0 : w.cell? ⟨b, 0, none⟩ = some (.pointer none)) (hsh : w.shape? b = some (120, 2)) (hfz : w.frozen? ⟨b, 0, none⟩ = false) :
    Calls Tryz.prog 114 #[.pointer (some ⟨b, 0, none⟩)] w fun e w' => e = .returned (.tuple #[]) ∧ w' = w.setCell ⟨b, 0, none⟩ (.pointer (some ⟨b, 0, none⟩)) := by
  obtain ⟨j, hj, hjs⟩ := Option.map_eq_some_iff.1 sizeB
  go_enter Tryz.func114, Tryz.ntmps114
  go_wp2
  rw [Lib.run_to_unsafe w ⟨b, 0, none⟩ Tryz.underlying118 Tryz.underlying131 hj (by rw [hjs]; decide) hsh (Nat.zero_lt_succ 1)]
  simp only [Result.andThen]
  rw [Oper.upon_value]
  go_wp2
  rw [run_callFunc_extern Tryz.func122 (by kernel_rfl) (by kernel_rfl) (by kernel_rfl) (e := Extern.AbiNoEscape.same) (by kernel_rfl)]
  rw [Lib.run_noEscape]
  simp only [Result.andThen]
  rw [Oper.upon_value]
  go_wp2
  rw [Lib.run_from_unsafe w ⟨b, 0, none⟩ Tryz.underlying131 Tryz.underlying118 hj hsh (by kernel_rfl)]
  simp only [Result.andThen]
  rw [Oper.upon_value]
  go_wp2
  go_end0
  exact ⟨rfl, rfl⟩
theorem copyCheck_k (B b : Nat) (bs : List Value) (w : World) (h : Lib.IsBuilderF 120 5 B b bs w) :
    Calls Tryz.prog 114 #[.pointer (some ⟨b, 0, none⟩)] w fun e w' => e = .returned (.tuple #[]) ∧ (Lib.BuilderAtF 120 5 B b (.pointer (some ⟨b, 0, none⟩)) bs w' ∧ Below B w w' ∧ Lib.OthersKept 5 (some b) w w') := by
  rcases h with h | h
  · refine (copyCheck_fresh b w h.cell0 h.shape h.frozen0).mono ?_
    rintro e w' ⟨rfl, rfl⟩
    exact ⟨rfl, h.used _, (Below.refl B w).setCell (p := ⟨b, 0, none⟩) h.1 _, (Lib.OthersKept.refl _ _ w).setCell ⟨b, 0, none⟩ rfl _⟩
  · refine (copyCheck_used b w h.cell0).mono ?_
    rintro e w' ⟨rfl, rfl⟩
    exact ⟨rfl, h, Below.refl B _, Lib.OthersKept.refl _ _ _⟩
set_option maxHeartbeats 2000000 in
set_option maxRecDepth 100000 in
theorem bWriteByte (B b : Nat) (bs : List Value) (c : Int) (w : World) (h : Lib.IsBuilderF 120 5 B b bs w) (hlen : bs.length + 1 ≤ 140737488355328) (hBw : B ≤ w.heap.size) :
    Calls Tryz.prog 123 #[.pointer (some ⟨b, 0, none⟩), .int .u8 c] w fun e w' => e = .returned .nilIface ∧ (Lib.BuilderAtF 120 5 B b (.pointer (some ⟨b, 0, none⟩)) (bs ++ [.int .u8 c]) w' ∧ Below B w w' ∧ Lib.OthersKept 5 (some b) w w') := by
  obtain ⟨i0, hi, hz0, hz1, hz2⟩ := info_parts infoU8
  go_enter Tryz.func123, Tryz.ntmps123
  go_wp2_with (go_at_call 114; refine (copyCheck_k B b bs _ h).mono ?_)
  rintro e w1 ⟨rfl, h1, hb1, hk1⟩
  obtain ⟨hB, v, hbk, hown, hne⟩ := h1
  have c0 : w1.cell? ⟨b, 0, none⟩ = some (.pointer (some ⟨b, 0, none⟩)) := by rw [Lib.cell_of_heap hbk]; rfl
  have c1 : w1.cell? ⟨b, 1, none⟩ = some v := by rw [Lib.cell_of_heap hbk]; rfl
  go_wp2_with (at_builtin; refine wpList_append_ownF _ rfl _ _ 22 rfl B 5 i0 (.int .u8 0) 1 1 Tryz.underlying22 hi hz0 hz1 hz2 rfl (by decide) _ _ _ rfl (hown.alloc _) ⟨w1.heap.size, 0, none⟩ 1 1 [.int .u8 c] rfl rfl ?c1 ?c2 ?c3 ?c4 ?c5 ?_)
  case c1 =>
    intro j u hj
    match j, hj with
    | 0, hj => simp at hj; subst hj; simp [Addr.add]
  case c2 => intro u hu; simp at hu; subst hu; rfl
  case c3 => unfold maxLen; omega
  case c4 => omega
  case c5 => have := hb1.size; simp; omega
  intro v' w2 hown' hgrow _
  have hlt : b < w1.heap.size := by
    rcases Nat.lt_or_ge b w1.heap.size with h' | h'
    · exact h'
    · simp [Array.getElem?_eq_none h'] at hbk
  have hb2 : w2.heap[b]? = some (.cells #[.pointer (some ⟨b, 0, none⟩), v] 120 (0, 0)) := by
    rw [hgrow.block b (by simp; omega) (fun e => hne e.symm), Lib.alloc_old w1 _ b hlt]
    exact hbk
  have d0 : w2.cell? ⟨b, 0, none⟩ = some (.pointer (some ⟨b, 0, none⟩)) := by rw [Lib.cell_of_heap hb2]; rfl
  have d1 : w2.cell? ⟨b, 1, none⟩ = some v := by rw [Lib.cell_of_heap hb2]; rfl
  have f1 : w2.frozen? ⟨b, 1, none⟩ = false := Lib.frozen_of_heap hb2 1
  obtain ⟨g, cap, rfl⟩ : ∃ g cap, v' = .slice (some ⟨g, 0, none⟩) (bs.length + 1) cap := by
    rcases hown'.2 with ⟨_, h0⟩ | ⟨g, cap, cur, fz, hv, _⟩
    · omega
    · exact ⟨g, cap, hv⟩
  go_wp2
  go_ret
  refine ⟨rfl, ?_, ?_, ((hk1.alloc _).grown hgrow (Lib.ownsRowF_kind (hown.alloc _))).setCell ⟨b, 1, none⟩ rfl _⟩
  · exact Lib.BuilderAtF.put (T := 120) (e := 5) hB hb2 (bs' := bs ++ [.int .u8 c]) (by simpa using hown') (by decide)
  · exact ((hb1.alloc (by have := hb1.size; omega) _).grown hgrow (by have := hb1.size; simp; omega) (fun k hk => (hown.lt k hk).1)).setCell (p := ⟨b, 1, none⟩) hB _
set_option maxHeartbeats 4000000 in
set_option maxRecDepth 100000 in
theorem bWriteRune (B b : Nat) (bs : List Value) (r : Int) (hr0 : -2147483648 ≤ r) (hr1 : r ≤ 2147483647) (w : World) (h : Lib.IsBuilderF 120 5 B b bs w) (hlen : bs.length + 4 ≤ 140737488355328) (hBw : B ≤ w.heap.size) :
    Calls Tryz.prog 152 #[.pointer (some ⟨b, 0, none⟩), .int .i32 r] w fun e w' => e = .returned (.tuple #[.int .i64 (Lib.runeCells r).length, .nilIface]) ∧ (Lib.BuilderAtF 120 5 B b (.pointer (some ⟨b, 0, none⟩)) (bs ++ Lib.runeCells r) w' ∧ Below B w w' ∧ Lib.OthersKept 5 (some b) w w') := by
  have hk4 := Lib.runeCells_le r
  go_enter Tryz.func152, Tryz.ntmps152
  go_wp2_with (go_at_call 114; refine (copyCheck_k B b bs _ h).mono ?_)
  rintro e w1 ⟨rfl, h1, hb1, hk1⟩
  obtain ⟨hB, v, hbk, hown, hne⟩ := h1
  obtain ⟨ao, cap, rfl⟩ : ∃ ao cap, v = .slice ao bs.length cap := by
    rcases hown.2 with ⟨hv, h0⟩ | ⟨g, cap, cur, fz, hv, _⟩
    · exact ⟨none, 0, by rw [hv, h0]⟩
    · exact ⟨_, _, hv⟩
  have c0 : w1.cell? ⟨b, 0, none⟩ = some (.pointer (some ⟨b, 0, none⟩)) := by rw [Lib.cell_of_heap hbk]; rfl
  have c1 : w1.cell? ⟨b, 1, none⟩ = some (.slice ao bs.length cap) := by rw [Lib.cell_of_heap hbk]; rfl
  go_wp2_with (go_at_call 153; refine (u8AppendRune B _ bs.length bs r hr0 hr1 _ hown hlen (by have := hb1.size; omega)).mono ?_)
  rintro e w2 ⟨v', rfl, hown', o, hgrow⟩
  have hlt : b < w1.heap.size := by
    rcases Nat.lt_or_ge b w1.heap.size with h' | h'
    · exact h'
    · simp [Array.getElem?_eq_none h'] at hbk
  have hb2 : w2.heap[b]? = some (.cells #[.pointer (some ⟨b, 0, none⟩), .slice ao bs.length cap] 120 (0, 0)) := by
    rw [hgrow.block b (by simp; omega) (fun e => hne e.symm), Lib.alloc_old w1 _ b hlt]
    exact hbk
  have d0 : w2.cell? ⟨b, 0, none⟩ = some (.pointer (some ⟨b, 0, none⟩)) := by rw [Lib.cell_of_heap hb2]; rfl
  have d1 : w2.cell? ⟨b, 1, none⟩ = some (.slice ao bs.length cap) := by rw [Lib.cell_of_heap hb2]; rfl
  have f1 : w2.frozen? ⟨b, 1, none⟩ = false := Lib.frozen_of_heap hb2 1
  obtain ⟨g, cap', rfl⟩ : ∃ g cap', v' = .slice (some ⟨g, 0, none⟩) (bs.length + (Lib.runeCells r).length) cap' := by
    rcases hown'.2 with ⟨_, h0⟩ | ⟨g, cap', cur, fz, hv, _⟩
    · omega
    · exact ⟨g, cap', hv⟩
  go_wp2
  go_ret2
  refine ⟨?_, ?_, ?_, ((hk1.alloc _).grown hgrow (Lib.ownsRowF_kind (hown.alloc _))).setCell ⟨b, 1, none⟩ rfl _⟩
  · have e : ((bs.length : Int) + ((Lib.runeCells r).length : Int) - (bs.length : Int)) = ((Lib.runeCells r).length : Int) := by omega
    simp [e]
  · exact Lib.BuilderAtF.put (T := 120) (e := 5) hB hb2 (bs' := bs ++ Lib.runeCells r) (by simpa using hown') (by decide)
  · exact ((hb1.alloc (by have := hb1.size; omega) _).grown hgrow (by have := hb1.size; simp; omega) (fun k hk => (hown.lt k hk).1)).setCell (p := ⟨b, 1, none⟩) hB _
end Go.Proofs.YteefodibpjgicaaGreat

namespace Go.Proofs.YteefodibpjgicaaGreat
open Go.RowKit
theorem ne_of_lt {α : Type} {xs : List α} {k : Nat} (h : k < xs.length) : xs ≠ [] := fun e => by subst e; simp at h
def Sl (w : World) (v : Value) (xs : List Value) : Prop :=
  ∃ (a : Option Addr) (cap : Nat), v = .slice a xs.length cap ∧ xs.length ≤ cap ∧ cap ≤ 9223372036854775807 ∧ (a = none → cap = 0) ∧
    (xs ≠ [] → ∃ b off, a = some ⟨b, off, none⟩ ∧ ∀ j (h : j < xs.length), w.cell? ⟨b, off + j, none⟩ = some xs[j])
abbrev u8s (l : List UInt8) : List Value := Lib.byteCells l
theorem u8s_append (a b : List UInt8) : u8s (a ++ b) = u8s a ++ u8s b := Lib.byteCells_append a b
@[simp] theorem u8s_length (a : List UInt8) : (u8s a).length = a.length := Lib.byteCells_length a
theorem u8s_get (a : List UInt8) (k : Nat) (c : UInt8) (h : a[k]? = some c) : (u8s a)[k]? = some (.int .u8 (c.toNat : Int)) := by simp [u8s, Lib.byteCells, h]
theorem u8s_set (a : List UInt8) (k : Nat) (c : UInt8) : (u8s a).set k (.int .u8 (c.toNat : Int)) = u8s (a.set k c) := by simp [u8s, Lib.byteCells, List.map_set]
def i32s (l : List Int) : List Value := l.map (Value.int .i32)
@[simp] theorem i32s_length (l : List Int) : (i32s l).length = l.length := by simp [i32s]
theorem i32s_append (a b : List Int) : i32s (a ++ b) = i32s a ++ i32s b := by simp [i32s]
theorem Sl.below {w w' : World} {v : Value} {xs : List Value} (h : Sl w v xs) (hb : Below w.heap.size w w') : Sl w' v xs := by
  obtain ⟨a, cap, h1, h2, h3, h4, h5⟩ := h
  refine ⟨a, cap, h1, h2, h3, h4, fun hne => ?_⟩
  obtain ⟨b, off, h6, h7⟩ := h5 hne
  refine ⟨b, off, h6, fun j hj => ?_⟩
  have h8 := h7 j hj
  rw [hb.cell (World.block_lt_of_cell? w _ h8)]
  exact h8
theorem Sl.nil (w : World) : Sl w (.slice none 0 0) [] := ⟨none, 0, rfl, Nat.le_refl _, by omega, fun _ => rfl, fun h => absurd rfl h⟩
theorem Sl.own {w : World} {B : Nat} {e : TypeId} {v : Value} {n : Nat} {xs : List Value} (h : w.ownsRow B e 1 v n xs) : Sl w v xs := by
  have hn : xs.length = n := by have := h.1; omega
  have hc := fun g hg => h.cells (g := g) hg
  rcases h.2 with ⟨rfl, h0⟩ | ⟨g, cap, cur, rfl, _, hg, h1, h2, h3, h4⟩
  · have : xs = [] := List.eq_nil_of_length_eq_zero (by omega)
    subst this
    exact Sl.nil w
  · unfold maxLen at h2
    refine ⟨some ⟨g, 0, none⟩, cap, by rw [hn], by omega, by omega, (fun h => by cases h), fun _ => ⟨g, 0, rfl, fun j hj => ?_⟩⟩
    have h5 := hc g rfl j xs[j] (List.getElem?_eq_getElem hj)
    have hplain : (⟨g, 0, none⟩ : Addr).add j = ⟨g, 0 + j, none⟩ := by unfold Addr.add; split <;> simp_all
    rwa [hplain] at h5
theorem Sl.bytes (w : World) (e : TypeId) (s : ByteArray) (hs : s.size ≤ 9223372036854775807) :
    Sl (Lib.bytesWorld w e s) (.slice (some ⟨w.heap.size, 0, none⟩) s.size (grownCap w s.size 0 e)) (u8s s.data.toList) := by
  have hl : (u8s s.data.toList).length = s.size := by rw [u8s, Lib.byteCells_length]; rfl
  have h1 := grownCap_ge w s.size 0 e
  have h2 := grownCap_le_maxLen w s.size 0 e (by unfold maxLen; omega)
  unfold maxLen at h2
  refine ⟨_, _, by rw [hl], by omega, by omega, (fun h => by cases h), fun _ => ⟨_, 0, rfl, fun j hj => ?_⟩⟩
  rw [Nat.zero_add, Lib.bytesWorld_cell w e s j (by omega)]
  have hj' : j < s.data.toList.length := by rw [hl] at hj; exact hj
  simp [u8s, Lib.byteCells, List.getD_eq_getElem?_getD, List.getElem?_eq_getElem hj']
theorem below_bytesWorld (w : World) (e : TypeId) (s : ByteArray) : Below w.heap.size w (Lib.bytesWorld w e s) :=
  ⟨by simp [Lib.bytesWorld, World.freeze, World.alloc, World.drew, -World.alloc_eq, -World.drew_eq], by simp [Lib.bytesWorld, World.freeze, World.alloc, World.drew, -World.alloc_eq, -World.drew_eq],
    by simp [Lib.bytesWorld, World.freeze, World.alloc, World.drew, -World.alloc_eq, -World.drew_eq], by rw [Lib.bytesWorld_size]; omega, fun k hk => Lib.bytesWorld_at_old w e s k hk⟩
theorem Sl.toString {P : Program} {w : World} {v : Value} {l : List UInt8} (h : Sl w v (u8s l)) (src dst e : TypeId) (hs : P.underlying src = some (.slice e)) (he : P.underlying e = some (.int .u8)) (hd : P.underlying dst = some .string) :
    (convert src dst v).run P w = .ok (.string ⟨l.toArray⟩) w := by
  obtain ⟨a, cap, rfl, h2, h3, h4, h5⟩ := h
  have hl : (u8s l).length = l.length := Lib.byteCells_length l
  cases a with
  | none =>
    have : l = [] := List.eq_nil_of_length_eq_zero (by have := h4 rfl; omega)
    subst this
    rw [run_convert_bytes_nil w src e hs he _ _ dst hd]
    rfl
  | some a =>
    rw [hl]
    refine run_convert_bytes_back w src dst e a cap l hs he hd fun j hj => ?_
    obtain ⟨b, off, h6, h7⟩ := h5 (fun h0 => by rw [h0] at hl; simp at hl; omega)
    cases h6
    have hplain : (⟨b, off, none⟩ : Addr).add j = ⟨b, off + j, none⟩ := by unfold Addr.add; split <;> simp_all
    rw [hplain, h7 j (by omega)]
    simp [u8s, Lib.byteCells]
theorem grownBy_of_alloc {w w2 : World} {o : Obj} {row : Option Nat} (h : (w.alloc o).grownBy w2 row) : w.grownBy w2 row :=
  ⟨h.os, h.tape, h.output, Nat.le_trans (by simp) h.size, fun k hk hne => by rw [h.block k (by simp; omega) hne]; exact Lib.alloc_old w o k hk⟩
theorem wpList_app1 {P : Program} {ops : Array Oper} {rest : List Oper} {o : Oper} {a : Act} {Q : Exit → Act → World → Prop} (w1 : World) (x : Value) (hgd : o.guard = none) (s y : Operand) (t e : TypeId)
    (ho : o.op = .call { callee := .builtin .append, args := #[s, y], argTypes := #[t, t] }) (base : Nat) {z : Value} {bytes : Nat} (ht : P.underlying t = some (.slice e))
    (hinfo : (P.info? e).map (fun i => (i.zero, i.size, i.bytes)) = some (some z, 1, bytes)) (hz : z.cells.size = 1)
    (v : Value) (n : Nat) (xs : List Value) (hs : a.eval s = v) (hown : w1.ownsRow base e 1 v n xs) (hx : a.eval y = .slice (some ⟨w1.heap.size, 0, none⟩) 1 1) (h1 : x.oneCell' = true)
    (h63 : n + 1 ≤ 9223372036854775807) (hbytes : (n + 1) * bytes ≤ 140737488355328) (hbase : base ≤ w1.heap.size)
    (h : ∀ v' w2, w2.ownsRow base e 1 v' (n + 1) (xs ++ [x]) → w1.grownBy w2 v.ownBlock → wpList P ops Q rest (a.put o.dst v') w2) : wpList P ops Q (o :: rest) a (w1.alloc (.cells #[x] e)) := by
  obtain ⟨i, hi, hz0, hz1, hz2⟩ := info_parts hinfo
  refine wpList_append_own _ hgd s y t ho base e i z 1 bytes ht hi hz0 hz1 hz2 hz (by decide) v n xs hs (hown.alloc _) ⟨w1.heap.size, 0, none⟩ 1 1 [x] hx rfl ?_ ?_ (by unfold maxLen; omega) hbytes (by simp; omega) ?_
  · intro j u hj
    match j, hj with
    | 0, hj => simp at hj; subst hj; simp [Addr.add]
  · intro u hu; simp at hu; subst hu; exact h1
  · intro v' w2 h2 h3 _
    exact h v' w2 h2 (grownBy_of_alloc h3)
theorem wpList_appSl {P : Program} {ops : Array Oper} {rest : List Oper} {o : Oper} {a : Act} {Q : Exit → Act → World → Prop} (w1 : World) (hgd : o.guard = none) (s y : Operand) (t e : TypeId)
    (ho : o.op = .call { callee := .builtin .append, args := #[s, y], argTypes := #[t, t] }) (base : Nat) {z : Value} {bytes : Nat} (ht : P.underlying t = some (.slice e))
    (hinfo : (P.info? e).map (fun i => (i.zero, i.size, i.bytes)) = some (some z, 1, bytes)) (hz : z.cells.size = 1)
    (v : Value) (n : Nat) (xs : List Value) (hs : a.eval s = v) (hown : w1.ownsRow base e 1 v n xs) (yv : Value) (ys : List Value) (hy : a.eval y = yv) (hx : Sl w1 yv ys) (h1 : ∀ u ∈ ys, u.oneCell' = true)
    (h63 : n + ys.length ≤ 9223372036854775807) (hbytes : (n + ys.length) * bytes ≤ 140737488355328) (hbase : base ≤ w1.heap.size)
    (h : ∀ v' w2, w2.ownsRow base e 1 v' (n + ys.length) (xs ++ ys) → w1.grownBy w2 v.ownBlock → wpList P ops Q rest (a.put o.dst v') w2) : wpList P ops Q (o :: rest) a w1 := by
  obtain ⟨i, hi, hz0, hz1, hz2⟩ := info_parts hinfo
  obtain ⟨ad, cap, rfl, h2, h3, h4, h5⟩ := hx
  cases ad with
  | none =>
    have h6 := h4 rfl
    have h7 : ys = [] := List.eq_nil_of_length_eq_zero (by omega)
    subst h7
    subst h6
    refine wpList_append_own_none hgd s y t ho base e i 1 ht hi v n xs hs hown hy ?_
    have := h v w1 (by simpa using hown) ⟨rfl, rfl, rfl, Nat.le_refl _, fun _ _ _ => rfl⟩
    exact this
  | some ad =>
    refine wpList_append_own _ hgd s y t ho base e i z 1 bytes ht hi hz0 hz1 hz2 hz (by decide) v n xs hs hown ad ys.length cap ys hy (by omega) ?_ h1 (by unfold maxLen; omega) hbytes hbase ?_
    · intro j u hj
      obtain ⟨hj', e⟩ := List.getElem?_eq_some_iff.1 hj
      obtain ⟨b, off, h6, h7⟩ := h5 (ne_of_lt hj')
      cases h6
      have hplain : (⟨b, off, none⟩ : Addr).add j = ⟨b, off + j, none⟩ := by unfold Addr.add; split <;> simp_all
      rw [hplain, h7 j hj', e]
    · intro v' w2 h8 h9 _
      exact h v' w2 h8 h9
theorem owns_below {w w1 : World} {base : Nat} {e : TypeId} {v : Value} {n : Nat} {xs : List Value} (h : w.ownsRow base e 1 v n xs) (hb : Below w.heap.size w w1) : w1.ownsRow base e 1 v n xs :=
  h.kept (row := none) ⟨hb.os, hb.tape, hb.output, hb.size, fun k hk _ => hb.block k hk⟩ (by cases h : v.ownBlock <;> simp)
theorem Sl.drop {w : World} {b off n cap : Nat} {xs : List Value} (h : Sl w (.slice (some ⟨b, off, none⟩) n cap) xs) (k : Nat) (hk : k ≤ n) : Sl w (.slice (some ⟨b, off + k, none⟩) (n - k) (cap - k)) (xs.drop k) := by
  obtain ⟨a, cap', h1, h2, h3, h4, h5⟩ := h
  cases h1
  refine ⟨some ⟨b, off + k, none⟩, cap - k, by rw [List.length_drop], by rw [List.length_drop]; omega, by omega, (fun h => by cases h), fun hne => ?_⟩
  have h6 : k < xs.length := by
    rcases Nat.lt_or_ge k xs.length with h6 | h6
    · exact h6
    · exact absurd (List.drop_of_length_le h6) hne
  obtain ⟨b', off', h7, h8⟩ := h5 (ne_of_lt h6)
  cases h7
  refine ⟨b, off + k, rfl, fun j hj => ?_⟩
  rw [List.length_drop] at hj
  rw [Nat.add_assoc, h8 (k + j) (by omega), List.getElem_drop]
theorem below_row {B base : Nat} {e : TypeId} {n : Nat} {v : Value} {xs : List Value} {a w w' : World} (h : Below B a w) (hown : w.ownsRow base e 1 v n xs) (hg : w.grownBy w' v.ownBlock) (hB : B ≤ w.heap.size) (hb : B ≤ base) : Below B a w' :=
  h.grown hg hB (fun k hk => by have := (hown.lt k hk).1; omega)
theorem extract_end (s : ByteArray) (a : Nat) : (s.extract a s.size).data.toList = s.data.toList.drop a := by
  rw [Lib.extract_data, List.take_of_length_le]
  rw [List.length_drop]
  exact Nat.le_refl _
def MutRow (w : World) (b : Nat) (xs : List Value) : Prop := ∀ j (h : j < xs.length), w.cell? ⟨b, j, none⟩ = some xs[j] ∧ w.frozen? ⟨b, j, none⟩ = false
theorem MutRow.at {w : World} {b : Nat} {xs : List Value} (h : MutRow w b xs) {k : Nat} {x : Value} (hx : xs[k]? = some x) : w.cell? ⟨b, k, none⟩ = some x ∧ w.frozen? ⟨b, k, none⟩ = false := by
  obtain ⟨hk, e⟩ := List.getElem?_eq_some_iff.1 hx
  have := h k hk
  rwa [e] at this
theorem MutRow.set {w : World} {b : Nat} {xs : List Value} (h : MutRow w b xs) {k : Nat} (hk : k < xs.length) (v : Value) : MutRow (w.setCell ⟨b, k, none⟩ v) b (xs.set k v) := by
  intro j hj
  rw [List.length_set] at hj
  refine ⟨?_, (World.frozen?_setCell _ _ _ _).trans (h j hj).2⟩
  by_cases e : k = j
  · subst e
    rw [World.cell?_setCell_same _ _ _ (h k hk).1]
    simp
  · rw [World.cell?_setCell_other _ _ _ _ (by simp), (h j hj).1, List.getElem_set_ne e]
theorem MutRow.sl {w : World} {b cap : Nat} {xs : List Value} (h : MutRow w b xs) (h1 : xs.length ≤ cap) (h2 : cap ≤ 9223372036854775807) : Sl w (.slice (some ⟨b, 0, none⟩) xs.length cap) xs :=
  ⟨_, _, rfl, h1, h2, (fun h => by cases h), fun _ => ⟨b, 0, rfl, fun j hj => by rw [Nat.zero_add]; exact (h j hj).1⟩⟩
theorem MutRow.bytes (w : World) (e : TypeId) (s : ByteArray) : MutRow (Lib.bytesWorld w e s) w.heap.size (u8s s.data.toList) := by
  intro j hj
  have hl : (u8s s.data.toList).length = s.size := by rw [u8s_length]; rfl
  have h1 := grownCap_ge w s.size 0 e
  refine ⟨?_, ?_⟩
  · rw [Lib.bytesWorld_cell w e s j (by omega)]
    have hj' : j < s.data.toList.length := by rw [hl] at hj; exact hj
    simp [u8s, Lib.byteCells, List.getD_eq_getElem?_getD, List.getElem?_eq_getElem hj']
  · unfold World.frozen?
    rw [Lib.bytesWorld_at_new]
    have : s.size ≤ (Lib.bytesCells w e s).size := by
      unfold Lib.bytesCells
      rw [Array.size_append, Array.size_map]
      exact Nat.le_add_right _ _
    simp
    omega
end Go.Proofs.YteefodibpjgicaaGreat

namespace Go.Proofs.YteefodibpjgicaaGreat
namespace M1
def foll (c : Nat) : Prop := 128 ≤ c ∧ c < 192
def Cls (c n v least : Nat) : Prop := (192 ≤ c ∧ c < 224 ∧ n = 2 ∧ v + 192 = c ∧ least = 128) ∨ (224 ≤ c ∧ c < 240 ∧ n = 3 ∧ v + 224 = c ∧ least = 2048) ∨ (240 ≤ c ∧ c < 248 ∧ n = 4 ∧ v + 240 = c ∧ least = 65536)
def at_ (l : List UInt8) (k : Nat) : Nat := (l.getD k 0).toNat
theorem at_lt (l : List UInt8) (k : Nat) : at_ l k < 256 := (l.getD k 0).toNat_lt
def vv (l : List UInt8) (v : Nat) : Nat → Nat
  | 0 => v
  | 1 => v
  | k + 2 => 64 * vv l v (k + 1) + at_ l (k + 1) - 128
def badv (v least : Nat) : Prop := v < least ∨ v > 1114111 ∨ (55296 ≤ v ∧ v ≤ 57343)
instance (v least : Nat) : Decidable (badv v least) := by unfold badv; infer_instance
instance (c : Nat) : Decidable (foll c) := by unfold foll; infer_instance
theorem dec_at (l : List UInt8) : dec l = if at_ l 0 < 0x80 then (at_ l 0, 1)
  else if at_ l 0 / 32 == 6 && (decide (1 < l.length) && at_ l 1 / 64 == 2) then
    if (at_ l 0 % 32) * 64 + at_ l 1 % 64 ≥ 0x80 then ((at_ l 0 % 32) * 64 + at_ l 1 % 64, 2) else (65533, 1)
  else if at_ l 0 / 16 == 14 && (decide (1 < l.length) && at_ l 1 / 64 == 2) && (decide (2 < l.length) && at_ l 2 / 64 == 2) then
    if (at_ l 0 % 16) * 4096 + (at_ l 1 % 64) * 64 + at_ l 2 % 64 ≥ 0x800 && decide (okRune ((at_ l 0 % 16) * 4096 + (at_ l 1 % 64) * 64 + at_ l 2 % 64 : Nat)) then
      ((at_ l 0 % 16) * 4096 + (at_ l 1 % 64) * 64 + at_ l 2 % 64, 3) else (65533, 1)
  else if at_ l 0 / 8 == 30 && (decide (1 < l.length) && at_ l 1 / 64 == 2) && (decide (2 < l.length) && at_ l 2 / 64 == 2) && (decide (3 < l.length) && at_ l 3 / 64 == 2) then
    if (at_ l 0 % 8) * 262144 + (at_ l 1 % 64) * 4096 + (at_ l 2 % 64) * 64 + at_ l 3 % 64 ≥ 0x10000 && decide (okRune ((at_ l 0 % 8) * 262144 + (at_ l 1 % 64) * 4096 + (at_ l 2 % 64) * 64 + at_ l 3 % 64 : Nat)) then
      ((at_ l 0 % 8) * 262144 + (at_ l 1 % 64) * 4096 + (at_ l 2 % 64) * 64 + at_ l 3 % 64, 4) else (65533, 1)
  else (65533, 1) := by
  simp only [← valid_iff]; rfl
theorem dec_low (l : List UInt8) (h : at_ l 0 < 128) : dec l = (at_ l 0, 1) := by rw [dec_at, if_pos h]
theorem dec_none (l : List UInt8) (h : 128 ≤ at_ l 0) (h2 : at_ l 0 < 192 ∨ 248 ≤ at_ l 0) : dec l = (65533, 1) := by
  have := at_lt l 0
  rw [dec_at, if_neg (by omega), if_neg (by simp; omega), if_neg (by simp; omega), if_neg (by simp; omega)]
theorem dec_short (l : List UInt8) {n v least : Nat} (h : Cls (at_ l 0) n v least) (h2 : l.length < n) : dec l = (65533, 1) := by
  rcases h with ⟨h3, h4, rfl, h5, rfl⟩ | ⟨h3, h4, rfl, h5, rfl⟩ | ⟨h3, h4, rfl, h5, rfl⟩
  all_goals rw [dec_at, if_neg (by omega), if_neg (by simp; omega), if_neg (by simp; omega), if_neg (by simp; omega)]
theorem dec_stop (l : List UInt8) {n v least : Nat} (h : Cls (at_ l 0) n v least) (k : Nat) (h1 : 1 ≤ k) (hk : k < n) (h2 : ¬ foll (at_ l k)) : dec l = (65533, 1) := by
  have hb := at_lt l k
  unfold foll at h2
  have h2' : ¬ at_ l k / 64 = 2 := by omega
  rcases h with ⟨h3, h4, rfl, h5, rfl⟩ | ⟨h3, h4, rfl, h5, rfl⟩ | ⟨h3, h4, rfl, h5, rfl⟩
  · obtain rfl : k = 1 := by omega
    rw [dec_at, if_neg (by omega), if_neg (by simp [h2']), if_neg (by simp; omega), if_neg (by simp; omega)]
  · rcases (by omega : k = 1 ∨ k = 2) with rfl | rfl
    all_goals rw [dec_at, if_neg (by omega), if_neg (by simp; omega), if_neg (by simp [h2']), if_neg (by simp; omega)]
  · rcases (by omega : k = 1 ∨ k = 2 ∨ k = 3) with rfl | rfl | rfl
    all_goals rw [dec_at, if_neg (by omega), if_neg (by simp; omega), if_neg (by simp; omega), if_neg (by simp [h2'])]
set_option maxRecDepth 10000 in
theorem dec_full (l : List UInt8) {n v least : Nat} (h : Cls (at_ l 0) n v least) (hl : n ≤ l.length) (hf : ∀ k, 1 ≤ k → k < n → foll (at_ l k)) : dec l = if badv (vv l v n) least then (65533, 1) else (vv l v n, n) := by
  have b1 := at_lt l 1
  have b2 := at_lt l 2
  have b3 := at_lt l 3
  rcases h with ⟨h3, h4, rfl, h5, rfl⟩ | ⟨h3, h4, rfl, h5, rfl⟩ | ⟨h3, h4, rfl, h5, rfl⟩
  · have f1 := hf 1 (by omega) (by omega)
    unfold foll at f1
    have e : vv l v 2 = (at_ l 0 % 32) * 64 + at_ l 1 % 64 := by
      have : vv l v 2 = 64 * v + at_ l 1 - 128 := rfl
      omega
    rw [dec_at, if_neg (by omega), if_pos (by simp; omega), e]
    by_cases hb : (at_ l 0 % 32) * 64 + at_ l 1 % 64 ≥ 128
    · rw [if_pos hb, if_neg (by unfold badv; omega)]
    · rw [if_neg hb, if_pos (by unfold badv; omega)]
  · have f1 := hf 1 (by omega) (by omega)
    have f2 := hf 2 (by omega) (by omega)
    unfold foll at f1 f2
    have e : vv l v 3 = (at_ l 0 % 16) * 4096 + (at_ l 1 % 64) * 64 + at_ l 2 % 64 := by
      have : vv l v 3 = 64 * (64 * v + at_ l 1 - 128) + at_ l 2 - 128 := rfl
      omega
    rw [dec_at, if_neg (by omega), if_neg (by simp; omega), if_pos (by simp; omega), e]
    generalize (at_ l 0 % 16) * 4096 + (at_ l 1 % 64) * 64 + at_ l 2 % 64 = x at *
    by_cases hb : badv x 2048
    · rw [if_pos hb, if_neg (by simp [okRune]; unfold badv at hb; omega)]
    · rw [if_neg hb, if_pos (by simp [okRune]; unfold badv at hb; omega)]
  · have f1 := hf 1 (by omega) (by omega)
    have f2 := hf 2 (by omega) (by omega)
    have f3 := hf 3 (by omega) (by omega)
    unfold foll at f1 f2 f3
    have e : vv l v 4 = (at_ l 0 % 8) * 262144 + (at_ l 1 % 64) * 4096 + (at_ l 2 % 64) * 64 + at_ l 3 % 64 := by
      have : vv l v 4 = 64 * (64 * (64 * v + at_ l 1 - 128) + at_ l 2 - 128) + at_ l 3 - 128 := rfl
      omega
    rw [dec_at, if_neg (by omega), if_neg (by simp; omega), if_neg (by simp; omega), if_pos (by simp; omega), e]
    generalize (at_ l 0 % 8) * 262144 + (at_ l 1 % 64) * 4096 + (at_ l 2 % 64) * 64 + at_ l 3 % 64 = x at *
    by_cases hb : badv x 65536
    · rw [if_pos hb, if_neg (by simp [okRune]; unfold badv at hb; omega)]
    · rw [if_neg hb, if_pos (by simp [okRune]; unfold badv at hb; omega)]
def prev (rs : List Int) : Nat → Bool
  | 0 => false
  | k + 1 => decide (rs.getD k 0 = 13)
def piece (x : Int) (p : Bool) : List Int := if x = 13 then [10] else if x = 10 ∧ p = true then [] else if x = 0 then [65533] else [x]
theorem mk_drop (rs : List Int) (k : Nat) (h : k < rs.length) : mk (prev rs k) (rs.drop k) = piece rs[k] (prev rs k) ++ mk (prev rs (k + 1)) (rs.drop (k + 1)) := by
  rw [List.drop_eq_getElem_cons h, mk]
  have : prev rs (k + 1) = decide (rs[k] = 13) := by simp [prev, List.getD_eq_getElem?_getD, List.getElem?_eq_getElem h]
  rw [this]; rfl
end M1
end Go.Proofs.YteefodibpjgicaaGreat

namespace Go.Proofs.YteefodibpjgicaaGreat
open Go.RowKit
set_option maxHeartbeats 1000000 in
theorem ref01Follows (c : Int) (w : World) (h0 : 0 ≤ c) (h1 : c ≤ 255) :
    Calls Tryz.prog 70 #[.int .u8 c] w fun e w' => e = .returned (.bool (decide (128 ≤ c ∧ c < 192))) ∧ w' = w := by
  by_cases h : 128 ≤ c ∧ c < 192
  · rw [decide_eq_true h]
    obtain ⟨h2, h3⟩ := h
    go_enter Tryz.func70, Tryz.ntmps70
    go_wp2
    go_ret
    exact ⟨rfl, rfl⟩
  · rw [decide_eq_false h]
    have h2 : c < 128 ∨ 192 ≤ c := by omega
    rcases h2 with h2 | h2
    · have hb : decide (128 ≤ c) = false := decide_eq_false (by omega)
      go_enter Tryz.func70, Tryz.ntmps70
      go_wp2
      go_ret
      exact ⟨rfl, rfl⟩
    · have hb : decide (c < 192) = false := decide_eq_false (by omega)
      go_enter Tryz.func70, Tryz.ntmps70
      go_wp2
      go_ret
      exact ⟨rfl, rfl⟩
set_option maxHeartbeats 2000000 in
set_option maxRecDepth 100000 in
theorem ref01One (v : Value) (l : List UInt8) (w : World) (hs : Sl w v (u8s l)) (hne : l ≠ []) :
    Calls Tryz.prog 44 #[v] w fun e w' => e = .returned (.tuple #[.int .i32 (M1.dec l).1, .int .i64 (M1.dec l).2]) ∧ w' = w := by
  obtain ⟨a, cap, rfl, h2, h3, h4, h5⟩ := hs
  have hpos := List.length_pos_iff.2 hne
  obtain ⟨b, off, rfl, h7⟩ := h5 (ne_of_lt (k := 0) (by simpa using hpos))
  rw [u8s_length] at *
  have hc : ∀ j, j < l.length → w.cell? ⟨b, off + j, none⟩ = some (.int .u8 (M1.at_ l j : Int)) := by
    intro j hj
    rw [h7 j (by simpa using hj)]
    simp [u8s, Lib.byteCells, M1.at_, List.getD_eq_getElem?_getD, List.getElem?_eq_getElem hj]
  have hc0 := hc 0 hpos
  rw [Nat.add_zero] at hc0
  have hb0 := M1.at_lt l 0
  clear h5 h7 h4
  by_cases hlow : M1.at_ l 0 < 128
  · rw [M1.dec_low l hlow]
    clear hc
    generalize M1.at_ l 0 = c at *
    go_enter Tryz.func44, Tryz.ntmps44
    go_wp2
    go_ret2
    exact ⟨rfl, rfl⟩
  by_cases hnone : M1.at_ l 0 < 192 ∨ 248 ≤ M1.at_ l 0
  · rw [M1.dec_none l (by omega) hnone]
    clear hc
    generalize M1.at_ l 0 = c at *
    rcases hnone with hnone | hnone
    all_goals
      go_enter Tryz.func44, Tryz.ntmps44
      go_wp2
      go_ret2
      exact ⟨rfl, rfl⟩
  have hcls : (192 ≤ M1.at_ l 0 ∧ M1.at_ l 0 < 224) ∨ (224 ≤ M1.at_ l 0 ∧ M1.at_ l 0 < 240) ∨ (240 ≤ M1.at_ l 0 ∧ M1.at_ l 0 < 248) := by omega
  go_enter Tryz.func44, Tryz.ntmps44
  go_upto_if 23 with fail
  go_cut [4, 5, 6, 7] (fun _ s5 s6 s7 wx => wx = w ∧ ∃ n v least : Nat, s5 = .int .i64 n ∧ s6 = .int .i64 v ∧ s7 = .int .i64 least ∧ M1.Cls (M1.at_ l 0) n v least)
  case first =>
    clear hc
    rcases hcls with ⟨k1, k2⟩ | ⟨k1, k2⟩ | ⟨k1, k2⟩
    · go_wp2
      go_meet
      exact ⟨rfl, 2, M1.at_ l 0 - 192, 128, rfl, by rw [Int.ofNat_sub k1]; rfl, rfl, by unfold M1.Cls; omega⟩
    · go_wp2
      go_meet
      exact ⟨rfl, 3, M1.at_ l 0 - 224, 2048, rfl, by rw [Int.ofNat_sub k1]; rfl, rfl, by unfold M1.Cls; omega⟩
    · go_wp2
      go_meet
      exact ⟨rfl, 4, M1.at_ l 0 - 240, 65536, rfl, by rw [Int.ofNat_sub k1]; rfl, rfl, by unfold M1.Cls; omega⟩
  case rest =>
    obtain ⟨rfl, n, v, least, rfl, rfl, rfl, hC⟩ := hcut
    have hn : 2 ≤ n ∧ n ≤ 4 ∧ v < 32 := by unfold M1.Cls at hC; omega
    clear hcls hnone hlow hc0
    by_cases hsh : l.length < n
    · have hd := Lib.hid (M1.dec_short l hC hsh)
      go_wp2
      go_ret2
      exact ⟨by rw [hd.out]; rfl, rfl⟩
    go_wp2
    go_loop [6, 8] (fun s6 i => ∃ k : Nat, 1 ≤ k ∧ k ≤ n ∧ i = .int .i64 k ∧ s6 = .int .i64 (M1.vv l v k) ∧ Hid (∀ j, 1 ≤ j → j < k → M1.foll (M1.at_ l j)) ∧ Hid ((k = 1 → M1.vv l v k < 32) ∧ (k = 2 → M1.vv l v k < 2048) ∧ (k = 3 → M1.vv l v k < 131072) ∧ (k = 4 → M1.vv l v k < 8388608))) (fun _ i => n - (intOf i).toNat)
    case atStart => exact ⟨1, by omega, by omega, rfl, rfl, fun j _ _ => by omega, ⟨fun _ => hn.2.2, by omega, by omega, by omega⟩⟩
    case round =>
      obtain ⟨k, hk1, hk2, rfl, rfl, hF, hV⟩ := hrel
      by_cases hlt : k < n
      · have hck := hc k (by omega)
        have hak := M1.at_lt l k
        have hvb : M1.vv l v k < 131072 := by have := hV.out; omega
        by_cases hfo : M1.foll (M1.at_ l k)
        · have hb : decide (128 ≤ (M1.at_ l k : Int) ∧ (M1.at_ l k : Int) < 192) = true := decide_eq_true (by unfold M1.foll at hfo; omega)
          have hF2 : Hid (∀ j, 1 ≤ j → j < k + 1 → M1.foll (M1.at_ l j)) := fun j h1 h2 => by
            by_cases e : j = k
            · rw [e]; exact hfo
            · exact hF.out j h1 (by omega)
          have hfo2 : 128 ≤ M1.at_ l k ∧ M1.at_ l k < 192 := hfo
          have hvs : Hid (M1.vv l v (k + 1) = 64 * M1.vv l v k + M1.at_ l k - 128) := by
            obtain ⟨k', rfl⟩ : ∃ k', k = k' + 1 := ⟨k - 1, by omega⟩
            exact rfl
          clear hc hfo
          go_wp2_with (go_at_call 70; refine (ref01Follows _ _ (by omega) (by omega)).mono ?_; rintro e w2 ⟨rfl, rfl⟩)
          go_round
          case rel =>
            refine ⟨k + 1, by omega, by omega, by go_num, ?_, hF2, ?_⟩
            · rw [hvs.out]; congr 1; omega
            · show _ ∧ _ ∧ _ ∧ _
              have := hV.out
              have := hvs.out
              refine ⟨?_, ?_, ?_, ?_⟩ <;> intro _ <;> omega
          case measure => simp [intOf]; omega
        · have hb : decide (128 ≤ (M1.at_ l k : Int) ∧ (M1.at_ l k : Int) < 192) = false := decide_eq_false (by unfold M1.foll at hfo; omega)
          have hd := Lib.hid (M1.dec_stop l hC k hk1 hlt hfo)
          clear hc hfo
          go_wp2_with (go_at_call 70; refine (ref01Follows _ _ (by omega) (by omega)).mono ?_; rintro e w2 ⟨rfl, rfl⟩)
          go_ret2
          exact ⟨by rw [hd.out]; rfl, rfl⟩
      · obtain rfl : k = n := by omega
        have hd := Lib.hid (M1.dec_full l hC (by omega) hF.out)
        have hvb : M1.vv l v k < 8388608 := by have := hV.out; omega
        clear hc hV hF
        by_cases hbad : M1.badv (M1.vv l v k) least
        · have hd2 := Lib.hid (hd.out.trans (if_pos hbad))
          clear hd
          unfold M1.badv at hbad
          generalize M1.vv l v k = x at *
          have hcase : x < least ∨ (least ≤ x ∧ 1114111 < x) ∨ (least ≤ x ∧ 55296 ≤ x ∧ x ≤ 57343) := by omega
          rcases hcase with c1 | ⟨c1, c2⟩ | ⟨c1, c2, c3⟩
          all_goals
            clear hbad
            go_wp2
            go_ret2
            exact ⟨by rw [hd2.out]; rfl, rfl⟩
        · have hd2 := Lib.hid (hd.out.trans (if_neg hbad))
          clear hd
          unfold M1.badv at hbad
          generalize M1.vv l v k = x at *
          have c1 : least ≤ x := by omega
          have c2 : x ≤ 1114111 := by omega
          have hcase : x < 55296 ∨ 57343 < x := by omega
          rcases hcase with c3 | c3
          · have hb : decide (55296 ≤ (x : Int)) = false := decide_eq_false (by omega)
            have hb2 : decide (55296 ≤ x) = false := decide_eq_false (by omega)
            clear hbad
            go_wp2
            go_ret2
            exact ⟨by rw [hd2.out]; rfl, rfl⟩
          · have hb : decide ((x : Int) ≤ 57343) = false := decide_eq_false (by omega)
            have hb2 : decide (x ≤ 57343) = false := decide_eq_false (by omega)
            clear hbad
            go_wp2
            go_ret2
            exact ⟨by rw [hd2.out]; rfl, rfl⟩
end Go.Proofs.YteefodibpjgicaaGreat
