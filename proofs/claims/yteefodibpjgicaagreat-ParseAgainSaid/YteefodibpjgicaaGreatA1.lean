/- Texts joined: Math1. -/
import Derived.Lib.RuneBytes
import GoSem.Core.Utf8
namespace Go.Proofs.YteefodibpjgicaaGreat
namespace M1
def cont (l : List UInt8) (k : Nat) : Bool:=decide (k < l.length) && (l.getD k 0).toNat / 64 == 2
def dec (l : List UInt8) : Nat × Nat :=
  if (l.getD 0 0).toNat < 0x80 then ((l.getD 0 0).toNat,1)
  else if (l.getD 0 0).toNat / 32 == 6 && cont l 1 then
    if ((l.getD 0 0).toNat % 32) * 64 + (l.getD 1 0).toNat % 64 ≥ 0x80 then (((l.getD 0 0).toNat % 32) * 64 + (l.getD 1 0).toNat % 64,2) else (65533,1)
  else if (l.getD 0 0).toNat / 16 == 14 && cont l 1 && cont l 2 then
    if ((l.getD 0 0).toNat % 16) * 4096 + ((l.getD 1 0).toNat % 64) * 64 + (l.getD 2 0).toNat % 64 ≥ 0x800 && Utf8.valid (((l.getD 0 0).toNat % 16) * 4096 + ((l.getD 1 0).toNat % 64) * 64 + (l.getD 2 0).toNat % 64 : Nat) then
      (((l.getD 0 0).toNat % 16) * 4096 + ((l.getD 1 0).toNat % 64) * 64 + (l.getD 2 0).toNat % 64,3) else (65533,1)
  else if (l.getD 0 0).toNat / 8 == 30 && cont l 1 && cont l 2 && cont l 3 then
    if ((l.getD 0 0).toNat % 8) * 262144 + ((l.getD 1 0).toNat % 64) * 4096 + ((l.getD 2 0).toNat % 64) * 64 + (l.getD 3 0).toNat % 64 ≥ 0x10000 && Utf8.valid (((l.getD 0 0).toNat % 8) * 262144 + ((l.getD 1 0).toNat % 64) * 4096 + ((l.getD 2 0).toNat % 64) * 64 + (l.getD 3 0).toNat % 64 : Nat) then
      (((l.getD 0 0).toNat % 8) * 262144 + ((l.getD 1 0).toNat % 64) * 4096 + ((l.getD 2 0).toNat % 64) * 64 + (l.getD 3 0).toNat % 64,4) else (65533,1)
  else (65533,1)
theorem get!_drop (s : ByteArray) (i k : Nat) : s.get! (i + k) = (s.data.toList.drop i).getD k 0:=by
  show s.data[i + k]! = _
  rw [Array.getElem!_eq_getD,Array.getD_eq_getD_getElem?,List.getD_eq_getElem?_getD,List.getElem?_drop,Array.getElem?_toList]
  rfl
theorem cont_drop (s : ByteArray) (i k : Nat) : cont (s.data.toList.drop i) k = (decide (i + k < s.size) && (s.get! (i + k)).toNat / 64 == 2):=by
  unfold cont
  rw [get!_drop]
  congr 1
  have : s.size = s.data.toList.length:=rfl
  rw [List.length_drop,this]
  apply decide_eq_decide.2
  omega
theorem decode_eq (s : ByteArray) (i : Nat) : Utf8.decode s i = dec (s.data.toList.drop i):=by
  have e:=fun k => get!_drop s i k
  have c:=fun k => cont_drop s i k
  simp only [Utf8.decode,dec,← e,c,Utf8.runeError]
abbrev enc (r : Int) : List UInt8:=Lib.encodeRune r
def okRune (r : Int) : Prop:=(0 ≤ r ∧ r < 55296) ∨ (57343 < r ∧ r ≤ 1114111)
instance (r : Int) : Decidable (okRune r):=by unfold okRune; infer_instance
theorem toNat_u8 (n : Nat) (h : n < 256) : (n.toUInt8).toNat = n:=by
  simp [Nat.mod_eq_of_lt h]
theorem enc1 (n : Nat) (h : n ≤ 127) : enc n = [n.toUInt8]:=by
  simp only [enc,Lib.encodeRune,Lib.encodeRuneZ_one (r:=n) (by omega) (by omega)]; rfl
theorem enc2 (n : Nat) (h : 128 ≤ n) (h' : n ≤ 2047) : enc n = [(192 + n / 64).toUInt8,(128 + n % 64).toUInt8]:=by
  simp only [enc,Lib.encodeRune,Lib.encodeRuneZ_two (r:=n) (by omega) (by omega)]
  simp only [List.map_cons,List.map_nil]
  rw [show ((192 : Int) + (n : Int) / 64).toNat = 192 + n / 64 by omega,show ((128 : Int) + (n : Int) % 64).toNat = 128 + n % 64 by omega]
theorem enc3 (n : Nat) (h : (2048 ≤ n ∧ n < 55296) ∨ (57343 < n ∧ n ≤ 65535)) : enc n = [(224 + n / 4096).toUInt8,(128 + n / 64 % 64).toUInt8,(128 + n % 64).toUInt8]:=by
  simp only [enc,Lib.encodeRune,Lib.encodeRuneZ_three (r:=n) (by omega)]
  simp only [List.map_cons,List.map_nil]
  rw [show ((224 : Int) + (n : Int) / 4096).toNat = 224 + n / 4096 by omega,show ((128 : Int) + (n : Int) / 64 % 64).toNat = 128 + n / 64 % 64 by omega,show ((128 : Int) + (n : Int) % 64).toNat = 128 + n % 64 by omega]
theorem enc4 (n : Nat) (h : 65536 ≤ n) (h' : n ≤ 1114111) : enc n = [(240 + n / 262144).toUInt8,(128 + n / 4096 % 64).toUInt8,(128 + n / 64 % 64).toUInt8,(128 + n % 64).toUInt8]:=by
  simp only [enc,Lib.encodeRune,Lib.encodeRuneZ_four (r:=n) (by omega) (by omega)]
  simp only [List.map_cons,List.map_nil]
  rw [show ((240 : Int) + (n : Int) / 262144).toNat = 240 + n / 262144 by omega,show ((128 : Int) + (n : Int) / 4096 % 64).toNat = 128 + n / 4096 % 64 by omega,show ((128 : Int) + (n : Int) / 64 % 64).toNat = 128 + n / 64 % 64 by omega,show ((128 : Int) + (n : Int) % 64).toNat = 128 + n % 64 by omega]
theorem valid_iff (r : Int) : Utf8.valid r = decide (okRune r):=by
  rw [Bool.eq_iff_iff,decide_eq_true_iff]
  unfold Utf8.valid okRune
  simp
  omega
theorem dec_enc (n : Nat) (h : okRune n) (t : List UInt8) : dec (enc n ++ t) = (n,(enc n).length):=by
  have hn : n ≤ 127 ∨ (128 ≤ n ∧ n ≤ 2047) ∨ ((2048 ≤ n ∧ n < 55296) ∨ (57343 < n ∧ n ≤ 65535)) ∨ (65536 ≤ n ∧ n ≤ 1114111):=by unfold okRune at h; omega
  rcases hn with h1 | ⟨h1,h2⟩ | h1 | ⟨h1,h2⟩
  · rw [enc1 n h1]
    have e:=toNat_u8 n (by omega)
    simp only [dec,List.cons_append,List.getD_cons_zero,e]
    rw [if_pos (by omega)]; rfl
  · rw [enc2 n h1 h2]
    have e1:=toNat_u8 (192 + n / 64) (by omega)
    have e2:=toNat_u8 (128 + n % 64) (by omega)
    simp only [dec,cont,List.cons_append,List.nil_append,List.getD_cons_zero,List.getD_cons_succ,List.length_cons,e1,e2]
    rw [if_neg (by omega),if_pos (by simp; omega),if_pos (by omega)]
    simp; omega
  · rw [enc3 n h1]
    have e1:=toNat_u8 (224 + n / 4096) (by omega)
    have e2:=toNat_u8 (128 + n / 64 % 64) (by omega)
    have e3:=toNat_u8 (128 + n % 64) (by omega)
    have a : (((224 + n / 4096) % 16) * 4096 + ((128 + n / 64 % 64) % 64) * 64 + (128 + n % 64) % 64) = n:=by omega
    simp only [dec,cont,List.cons_append,List.nil_append,List.getD_cons_zero,List.getD_cons_succ,List.length_cons,e1,e2,e3,a,valid_iff]
    rw [if_neg (by omega),if_neg (by simp; omega),if_pos (by simp; omega),if_pos (by simp [h]; omega)]
    rfl
  · rw [enc4 n h1 h2]
    have e1:=toNat_u8 (240 + n / 262144) (by omega)
    have e2:=toNat_u8 (128 + n / 4096 % 64) (by omega)
    have e3:=toNat_u8 (128 + n / 64 % 64) (by omega)
    have e4:=toNat_u8 (128 + n % 64) (by omega)
    have a : (((240 + n / 262144) % 8) * 262144 + ((128 + n / 4096 % 64) % 64) * 4096 + ((128 + n / 64 % 64) % 64) * 64 + (128 + n % 64) % 64) = n:=by omega
    simp only [dec,cont,List.cons_append,List.nil_append,List.getD_cons_zero,List.getD_cons_succ,List.length_cons,e1,e2,e3,e4,a,valid_iff]
    rw [if_neg (by omega),if_neg (by simp; omega),if_neg (by simp; omega),if_pos (by simp; omega),if_pos (by simp [h]; omega)]
    rfl
theorem u8_of_toNat (c : UInt8) (n : Nat) (h : c.toNat = n) : n.toUInt8 = c:=by subst h; simp
theorem dec_cases (l : List UInt8) (hl : l ≠ []) :
    (okRune ((dec l).1 : Nat) ∧ l = enc ((dec l).1 : Nat) ++ l.drop (dec l).2 ∧ (dec l).2 = (enc ((dec l).1 : Nat)).length) ∨
    (dec l = (65533,1) ∧ ∀ t,l ≠ [239,191,189] ++ t):=by
  obtain ⟨a,l1,rfl⟩:=List.exists_cons_of_ne_nil hl
  have ha:=a.toNat_lt
  by_cases c1 : a.toNat < 128
  · left
    have e : dec (a :: l1) = (a.toNat,1):=by simp only [dec,List.getD_cons_zero]; rw [if_pos c1]
    rw [e]
    refine ⟨by unfold okRune; omega,?_,?_⟩
    · rw [enc1 _ (by omega),u8_of_toNat a _ rfl]; rfl
    · rw [enc1 _ (by omega)]; rfl
  by_cases c2 : a.toNat / 32 = 6
  · cases l1 with
    | nil =>
      right
      refine ⟨?_,by simp⟩
      simp only [dec,cont,List.getD_cons_zero,List.length_cons,List.length_nil]
      rw [if_neg c1,if_neg (by simp),if_neg (by simp),if_neg (by simp)]
    | cons b l2 =>
      have hb:=b.toNat_lt
      by_cases d : b.toNat / 64 = 2 ∧ (a.toNat % 32) * 64 + b.toNat % 64 ≥ 128
      · left
        have e : dec (a :: b :: l2) = ((a.toNat % 32) * 64 + b.toNat % 64,2):=by
          simp only [dec,cont,List.getD_cons_zero,List.getD_cons_succ,List.length_cons]
          rw [if_neg c1,if_pos (by simp; omega),if_pos d.2]
        rw [e]
        have f:=enc2 ((a.toNat % 32) * 64 + b.toNat % 64) (by omega) (by omega)
        rw [u8_of_toNat a _ (by omega),u8_of_toNat b _ (by omega)] at f
        exact ⟨by unfold okRune; omega,by rw [f]; rfl,by rw [f]; rfl⟩
      · right
        refine ⟨?_,?_⟩
        · simp only [dec,cont,List.getD_cons_zero,List.getD_cons_succ,List.length_cons]
          rw [if_neg c1]
          by_cases d1 : b.toNat / 64 = 2
          · rw [if_pos (by simp; omega),if_neg (by omega)]
          · rw [if_neg (by simp; omega),if_neg (by simp; omega),if_neg (by simp; omega)]
        · intro t e
          simp only [List.cons_append,List.cons.injEq] at e
          rw [e.1] at c2
          exact absurd c2 (by decide)
  by_cases c3 : a.toNat / 16 = 14
  · match l1 with
    | [] =>
      right
      refine ⟨?_,by simp⟩
      simp only [dec,cont,List.getD_cons_zero,List.length_cons,List.length_nil]
      rw [if_neg c1,if_neg (by simp),if_neg (by simp),if_neg (by simp)]
    | [b] =>
      right
      refine ⟨?_,by simp⟩
      simp only [dec,cont,List.getD_cons_zero,List.length_cons,List.length_nil]
      rw [if_neg c1,if_neg (by simp; omega),if_neg (by simp),if_neg (by simp)]
    | b :: c :: l2 =>
      have hb:=b.toNat_lt
      have hc:=c.toNat_lt
      by_cases d : b.toNat / 64 = 2 ∧ c.toNat / 64 = 2 ∧ (a.toNat % 16) * 4096 + (b.toNat % 64) * 64 + c.toNat % 64 ≥ 2048 ∧ okRune ((a.toNat % 16) * 4096 + (b.toNat % 64) * 64 + c.toNat % 64 : Nat)
      · left
        obtain ⟨d1,d2,d3,d4⟩:=d
        have e : dec (a :: b :: c :: l2) = ((a.toNat % 16) * 4096 + (b.toNat % 64) * 64 + c.toNat % 64,3):=by
          simp only [dec,cont,List.getD_cons_zero,List.getD_cons_succ,List.length_cons,valid_iff]
          rw [if_neg c1,if_neg (by simp; omega),if_pos (by simp; omega),if_pos (by rw [decide_eq_true d4]; simp; omega)]
        rw [e]
        have d5:=d4
        unfold okRune at d5
        have f:=enc3 ((a.toNat % 16) * 4096 + (b.toNat % 64) * 64 + c.toNat % 64) (by omega)
        rw [u8_of_toNat a _ (by omega),u8_of_toNat b _ (by omega),u8_of_toNat c _ (by omega)] at f
        exact ⟨d4,by rw [f]; rfl,by rw [f]; rfl⟩
      · right
        refine ⟨?_,?_⟩
        · simp only [dec,cont,List.getD_cons_zero,List.getD_cons_succ,List.length_cons,valid_iff]
          rw [if_neg c1,if_neg (by simp; omega)]
          by_cases d1 : b.toNat / 64 = 2 ∧ c.toNat / 64 = 2
          · rw [if_pos (by simp; omega),if_neg ?_]
            intro h
            simp only [Bool.and_eq_true,decide_eq_true_eq] at h
            exact d ⟨d1.1,d1.2,h.1,h.2⟩
          · rw [if_neg (by simp; omega),if_neg (by simp; omega)]
        · intro t e
          simp only [List.cons_append,List.nil_append,List.cons.injEq] at e
          obtain ⟨rfl,rfl,rfl,_⟩:=e
          exact d ⟨by decide,by decide,by decide,by unfold okRune; decide⟩
  by_cases c4 : a.toNat / 8 = 30
  · match l1 with
    | [] =>
      right
      refine ⟨?_,by simp⟩
      simp only [dec,cont,List.getD_cons_zero,List.length_cons,List.length_nil]
      rw [if_neg c1,if_neg (by simp),if_neg (by simp),if_neg (by simp)]
    | [b] =>
      right
      refine ⟨?_,by simp⟩
      simp only [dec,cont,List.getD_cons_zero,List.length_cons,List.length_nil]
      rw [if_neg c1,if_neg (by simp; omega),if_neg (by simp),if_neg (by simp)]
    | [b,c] =>
      right
      refine ⟨?_,fun t e => ?_⟩
      · simp only [dec,cont,List.getD_cons_zero,List.length_cons,List.length_nil]
        rw [if_neg c1,if_neg (by simp; omega),if_neg (by simp; omega),if_neg (by simp)]
      · simp only [List.cons_append,List.cons.injEq] at e
        rw [e.1] at c4
        exact absurd c4 (by decide)
    | b :: c :: f :: l2 =>
      have hb:=b.toNat_lt
      have hc:=c.toNat_lt
      have hf:=f.toNat_lt
      by_cases d : b.toNat / 64 = 2 ∧ c.toNat / 64 = 2 ∧ f.toNat / 64 = 2 ∧ (a.toNat % 8) * 262144 + (b.toNat % 64) * 4096 + (c.toNat % 64) * 64 + f.toNat % 64 ≥ 65536 ∧ okRune ((a.toNat % 8) * 262144 + (b.toNat % 64) * 4096 + (c.toNat % 64) * 64 + f.toNat % 64 : Nat)
      · left
        obtain ⟨d1,d2,d3,d4,d5⟩:=d
        have e : dec (a :: b :: c :: f :: l2) = ((a.toNat % 8) * 262144 + (b.toNat % 64) * 4096 + (c.toNat % 64) * 64 + f.toNat % 64,4):=by
          simp only [dec,cont,List.getD_cons_zero,List.getD_cons_succ,List.length_cons,valid_iff]
          rw [if_neg c1,if_neg (by simp; omega),if_neg (by simp; omega),if_pos (by simp; omega),if_pos (by rw [decide_eq_true d5]; simp; omega)]
        rw [e]
        have d6:=d5
        unfold okRune at d6
        have g:=enc4 ((a.toNat % 8) * 262144 + (b.toNat % 64) * 4096 + (c.toNat % 64) * 64 + f.toNat % 64) (by omega) (by omega)
        rw [u8_of_toNat a _ (by omega),u8_of_toNat b _ (by omega),u8_of_toNat c _ (by omega),u8_of_toNat f _ (by omega)] at g
        exact ⟨d5,by rw [g]; rfl,by rw [g]; rfl⟩
      · right
        refine ⟨?_,?_⟩
        · simp only [dec,cont,List.getD_cons_zero,List.getD_cons_succ,List.length_cons,valid_iff]
          rw [if_neg c1,if_neg (by simp; omega),if_neg (by simp; omega)]
          by_cases d1 : b.toNat / 64 = 2 ∧ c.toNat / 64 = 2 ∧ f.toNat / 64 = 2
          · rw [if_pos (by simp; omega),if_neg ?_]
            intro h
            simp only [Bool.and_eq_true,decide_eq_true_eq] at h
            exact d ⟨d1.1,d1.2.1,d1.2.2,h.1,h.2⟩
          · rw [if_neg (by simp; omega)]
        · intro t e
          simp only [List.cons_append,List.cons.injEq] at e
          rw [e.1] at c4
          exact absurd c4 (by decide)
  right
  refine ⟨?_,?_⟩
  · simp only [dec,List.getD_cons_zero]
    rw [if_neg c1,if_neg (by simp [c2]),if_neg (by simp [c3]),if_neg (by simp [c4])]
  · intro t e
    simp only [List.cons_append,List.cons.injEq] at e
    rw [e.1] at c3
    exact absurd (by decide) c3
theorem dec_pos (l : List UInt8) (hl : l ≠ []) : 1 ≤ (dec l).2:=by
  rcases dec_cases l hl with ⟨_,_,h⟩ | ⟨h,_⟩
  · rw [h]
    have:=(Lib.encodeRuneZ_length ((dec l).1 : Nat)).1
    simpa [enc,Lib.encodeRune] using this
  · rw [h]; exact Nat.le_refl _
theorem dec_le (l : List UInt8) (hl : l ≠ []) : (dec l).2 ≤ l.length:=by
  rcases dec_cases l hl with ⟨_,h,h'⟩ | ⟨h,_⟩
  · have:=congrArg List.length h
    rw [List.length_append,List.length_drop] at this
    omega
  · rw [h]; exact List.length_pos_iff.2 hl
theorem dec_lt (l : List UInt8) : (dec l).1 < 1114112:=by
  cases l with
  | nil => decide
  | cons a t =>
    rcases dec_cases (a :: t) (by simp) with ⟨h,_⟩ | ⟨h,_⟩
    · unfold okRune at h; omega
    · rw [h]; decide
def runes (l : List UInt8) : List Int :=
  match l with
  | [] => []
  | c :: t => ((dec (c :: t)).1 : Int) :: runes (t.drop ((dec (c :: t)).2 - 1))
termination_by l.length
decreasing_by simp; omega
theorem runes_nil : runes [] = []:=by rw [runes]
theorem runes_step (l : List UInt8) (hl : l ≠ []) : runes l = ((dec l).1 : Int) :: runes (l.drop (dec l).2):=by
  obtain ⟨c,t,rfl⟩:=List.exists_cons_of_ne_nil hl
  have h:=dec_pos (c :: t) (by simp)
  rw [runes]
  congr 2
  obtain ⟨k,hk⟩ : ∃ k,(dec (c :: t)).2 = k + 1:=⟨_,(Nat.sub_add_cancel h).symm⟩
  rw [hk]; rfl
def text (l : List Int) : List UInt8:=l.flatMap enc
theorem text_append (a b : List Int) : text (a ++ b) = text a ++ text b:=by simp [text]
theorem text_cons (a : Int) (b : List Int) : text (a :: b) = enc a ++ text b:=by simp [text]
def mk : Bool → List Int → List Int
  | _,[] => []
  | p,r :: l => (if r = 13 then [10] else if r = 10 ∧ p = true then [] else if r = 0 then [65533] else [r]) ++ mk (decide (r = 13)) l
def right (l : List UInt8) : List UInt8:=text (mk false (runes l))
def isB (l : List UInt8) : Bool :=
  match l with
  | [] => true
  | c :: t => !((dec (c :: t)).1 == 0 || (dec (c :: t)).1 == 13 || ((dec (c :: t)).1 == 65533 && !((c :: t).take 3 == [239,191,189]))) && isB (t.drop ((dec (c :: t)).2 - 1))
termination_by l.length
decreasing_by simp; omega
theorem isB_nil : isB [] = true:=by rw [isB]
theorem isB_step (l : List UInt8) (hl : l ≠ []) : isB l = (!((dec l).1 == 0 || (dec l).1 == 13 || ((dec l).1 == 65533 && !(l.take 3 == [239,191,189]))) && isB (l.drop (dec l).2)):=by
  obtain ⟨c,t,rfl⟩:=List.exists_cons_of_ne_nil hl
  have h:=dec_pos (c :: t) (by simp)
  rw [isB]
  congr 2
  obtain ⟨k,hk⟩ : ∃ k,(dec (c :: t)).2 = k + 1:=⟨_,(Nat.sub_add_cancel h).symm⟩
  rw [hk]; rfl
theorem enc_head (n : Nat) (h : okRune n) : ∃ a t,enc n = a :: t ∧ (n < 128 → a.toNat = n) ∧ (128 ≤ n → 128 ≤ a.toNat):=by
  have hn : n ≤ 127 ∨ (128 ≤ n ∧ n ≤ 2047) ∨ ((2048 ≤ n ∧ n < 55296) ∨ (57343 < n ∧ n ≤ 65535)) ∨ (65536 ≤ n ∧ n ≤ 1114111):=by unfold okRune at h; omega
  rcases hn with h1 | ⟨h1,h2⟩ | h1 | ⟨h1,h2⟩
  · exact ⟨_,_,enc1 n h1,fun _ => toNat_u8 n (by omega),fun _ => by omega⟩
  · exact ⟨_,_,enc2 n h1 h2,fun _ => by omega,fun _ => by rw [toNat_u8 _ (by omega)]; omega⟩
  · exact ⟨_,_,enc3 n h1,fun _ => by omega,fun _ => by rw [toNat_u8 _ (by omega)]; omega⟩
  · exact ⟨_,_,enc4 n h1 h2,fun _ => by omega,fun _ => by rw [toNat_u8 _ (by omega)]; omega⟩
theorem enc_fffd : enc 65533 = [239,191,189]:=by decide
theorem isB_iff : ∀ (n : Nat) (l : List UInt8),l.length ≤ n → (isB l = true ↔ text (mk false (runes l)) = l):=by
  intro n
  induction n with
  | zero => intro l hl; have : l = []:=List.eq_nil_of_length_eq_zero (by omega); subst this; rw [isB_nil,runes_nil]; simp [mk,text]
  | succ n ih =>
    intro l hl
    by_cases hne : l = []
    · subst hne; rw [isB_nil,runes_nil]; simp [mk,text]
    have hpos:=dec_pos l hne
    have hlen:=List.length_pos_iff.2 hne
    have ih':=ih (l.drop (dec l).2) (by rw [List.length_drop]; omega)
    rw [isB_step l hne,runes_step l hne]
    rcases dec_cases l hne with ⟨hok,hl2,hw⟩ | ⟨hbad,hno⟩
    · generalize hr : (dec l).1 = r at *
      generalize hrest : l.drop (dec l).2 = rest at *
      obtain ⟨a,t,ha,ha1,ha2⟩:=enc_head r hok
      by_cases h0 : r = 0
      · subst h0
        constructor
        · intro h; simp at h
        · intro h
          rw [hl2] at h
          simp only [mk,text_append] at h
          rw [if_neg (by decide),if_neg (by simp),if_pos (by rfl),text_cons,show enc 65533 = [239,191,189] from enc_fffd,show enc ((0 : Nat) : Int) = [0] from by decide] at h
          simp at h
      by_cases h13 : r = 13
      · subst h13
        constructor
        · intro h; simp at h
        · intro h
          rw [hl2] at h
          simp only [mk,text_append] at h
          rw [if_pos (by rfl),text_cons,show enc 10 = [10] from by decide,show enc ((13 : Nat) : Int) = [13] from by decide] at h
          simp at h
      have hmk : text (mk false ((r : Int) :: runes rest)) = enc r ++ text (mk false (runes rest)):=by
        simp only [mk]
        rw [if_neg (by omega),if_neg (by simp),if_neg (by omega),text_append,decide_eq_false (by omega : ¬ (r : Int) = 13)]
        simp [text]
      rw [hmk]
      have hsp : (r == 65533 && !(l.take 3 == [239,191,189])) = false:=by
        by_cases hf : r = 65533
        · subst hf
          rw [hl2,show enc ((65533 : Nat) : Int) = [239,191,189] from enc_fffd]
          simp
        · simp [hf]
      rw [hsp]
      have hb : (r == 0 || r == 13 || false) = false:=by simp [h0,h13]
      rw [hb]
      simp only [Bool.not_false,Bool.true_and]
      rw [ih']
      constructor
      · intro h; rw [h]; exact hl2.symm
      · intro h
        have h2 : enc (r : Int) ++ text (mk false (runes rest)) = enc (r : Int) ++ rest:=h.trans hl2
        exact List.append_cancel_left h2
    · rw [hbad]
      have hnt : (l.take 3 == [239,191,189]) = false:=by
        rw [beq_eq_false_iff_ne]
        intro h
        exact hno (l.drop 3) (by rw [← h,List.take_append_drop])
      rw [hnt]
      constructor
      · intro h; simp at h
      · intro h
        exfalso
        simp only [mk] at h
        rw [if_neg (by decide),if_neg (by simp),if_neg (by decide),text_append,text_cons,show enc ((65533 : Nat) : Int) = [239,191,189] from enc_fffd] at h
        exact hno _ (by rw [← h]; simp only [List.append_assoc]; rfl)
theorem isB_right_iff (l : List UInt8) : isB l = true ↔ right l = l:=isB_iff l.length l (Nat.le_refl _)
theorem runes_ok (n : Nat) : ∀ (l : List UInt8),l.length ≤ n → ∀ r ∈ runes l,okRune r:=by
  induction n with
  | zero => intro l hl; have : l = []:=List.eq_nil_of_length_eq_zero (by omega); subst this; rw [runes_nil]; simp
  | succ n ih =>
    intro l hl r hr
    by_cases hne : l = []
    · subst hne; rw [runes_nil] at hr; simp at hr
    have hpos:=dec_pos l hne
    have hlen:=List.length_pos_iff.2 hne
    rw [runes_step l hne] at hr
    rcases List.mem_cons.1 hr with rfl | hr
    · rcases dec_cases l hne with ⟨hok,_⟩ | ⟨hbad,_⟩
      · exact hok
      · rw [hbad]; decide
    · exact ih (l.drop (dec l).2) (by rw [List.length_drop]; omega) r hr
theorem mk_ok : ∀ (l : List Int) (p : Bool),(∀ r ∈ l,okRune r) → ∀ r ∈ mk p l,okRune r ∧ r ≠ 0 ∧ r ≠ 13
  | [],_,_,r,hr => by simp [mk] at hr
  | x :: l,p,h,r,hr => by
    simp only [mk] at hr
    rcases List.mem_append.1 hr with hr | hr
    · by_cases h13 : x = 13
      · rw [if_pos h13] at hr; simp at hr; subst hr; decide
      rw [if_neg h13] at hr
      by_cases h10 : x = 10 ∧ p = true
      · rw [if_pos h10] at hr; simp at hr
      rw [if_neg h10] at hr
      by_cases h0 : x = 0
      · rw [if_pos h0] at hr; simp at hr; subst hr; decide
      · rw [if_neg h0] at hr; simp at hr; subst hr; exact ⟨h _ (by simp),h0,h13⟩
    · exact mk_ok l _ (fun y hy => h y (by simp [hy])) r hr
theorem right_ok (l : List UInt8) : ∀ r ∈ mk false (runes l),okRune r ∧ r ≠ 0 ∧ r ≠ 13:=mk_ok _ _ (runes_ok l.length l (Nat.le_refl _))
theorem text_len_le (l : List Int) : (text l).length ≤ 4 * l.length:=by
  induction l with
  | nil => simp [text]
  | cons r l ih =>
    rw [text_cons,List.length_append]
    have:=(Lib.encodeRuneZ_length r).2
    have e : (enc r).length = (Lib.encodeRuneZ r).length:=by simp [enc,Lib.encodeRune]
    simp; omega
theorem mk_len : ∀ (l : List Int) (p : Bool),(mk p l).length ≤ l.length
  | [],_ => by simp [mk]
  | x :: l,p => by
    have:=mk_len l (decide (x = 13))
    simp only [mk,List.length_append,List.length_cons]
    split
    · simp; omega
    split
    · simp; omega
    split <;> (simp; omega)
theorem runes_len (n : Nat) : ∀ (l : List UInt8),l.length ≤ n → (runes l).length ≤ l.length:=by
  induction n with
  | zero => intro l hl; have : l = []:=List.eq_nil_of_length_eq_zero (by omega); subst this; rw [runes_nil]; simp
  | succ n ih =>
    intro l hl
    by_cases hne : l = []
    · subst hne; rw [runes_nil]; simp
    have hpos:=dec_pos l hne
    have hlen:=List.length_pos_iff.2 hne
    have:=ih (l.drop (dec l).2) (by rw [List.length_drop]; omega)
    rw [runes_step l hne]
    rw [List.length_drop] at this
    simp; omega
theorem right_len (l : List UInt8) : (right l).length ≤ 4 * l.length:=by
  have h1:=text_len_le (mk false (runes l))
  have h2:=mk_len (runes l) false
  have h3:=runes_len l.length l (Nat.le_refl _)
  unfold right; omega
def small (c : UInt8) : UInt8:=if 65 ≤ c.toNat ∧ c.toNat ≤ 90 then c + 32 else c
theorem small_nat (c : UInt8) : (small c).toNat = if 65 ≤ c.toNat ∧ c.toNat ≤ 90 then c.toNat + 32 else c.toNat:=by
  unfold small
  split
  · rw [UInt8.toNat_add]; simp; omega
  · rfl
theorem small_small (c : UInt8) : small (small c) = small c:=by
  have h:=small_nat c
  rw [small,if_neg]
  split at h <;> omega
def fold (l : List UInt8) : List UInt8:=l.map small
def prefixB (s p : List UInt8) : Bool:=decide (p.length ≤ s.length) && (fold (s.take p.length) == p)
theorem prefixB_short (s p : List UInt8) (h : s.length < p.length) : prefixB s p = false:=by simp [prefixB]; omega
theorem prefixB_diff (s p : List UInt8) (k : Nat) (h : k < p.length) (h' : k < s.length) (hd : ¬ small s[k] = p[k]) : prefixB s p = false:=by
  unfold prefixB
  rw [Bool.and_eq_false_iff]
  right
  rw [beq_eq_false_iff_ne]
  intro h1
  have h2:=congrArg (fun l => l[k]?) h1
  simp only [fold,List.getElem?_map,List.getElem?_take,if_pos h,List.getElem?_eq_getElem h',List.getElem?_eq_getElem h,Option.map_some,Option.some.injEq] at h2
  exact hd h2
theorem prefixB_yes (s p : List UInt8) (h : p.length ≤ s.length) (he : fold (s.take p.length) = p) : prefixB s p = true:=by
  unfold prefixB
  rw [decide_eq_true h,he]; simp
def foldTo (l : List UInt8) (k : Nat) : List UInt8:=fold (l.take k) ++ l.drop k
theorem foldTo_zero (l : List UInt8) : foldTo l 0 = l:=by simp [foldTo,fold]
theorem foldTo_all (l : List UInt8) (k : Nat) (h : l.length ≤ k) : foldTo l k = fold l:=by simp [foldTo,List.take_of_length_le h,List.drop_of_length_le h]
theorem foldTo_length (l : List UInt8) (k : Nat) : (foldTo l k).length = l.length:=by simp [foldTo,fold]; omega
theorem foldTo_get (l : List UInt8) (k : Nat) (h : k < l.length) : (foldTo l k)[k]? = some l[k]:=by
  unfold foldTo
  have hl : (fold (l.take k)).length = k:=by simp [fold]; omega
  rw [List.getElem?_append_right (by omega),hl,Nat.sub_self,List.getElem?_drop,Nat.add_zero,List.getElem?_eq_getElem h]
theorem foldTo_set (l : List UInt8) (k : Nat) (h : k < l.length) : (foldTo l k).set k (small l[k]) = foldTo l (k + 1):=by
  unfold foldTo
  have e1 : l.take (k + 1) = l.take k ++ [l[k]]:=List.take_succ_eq_append_getElem h
  have e2 : l.drop k = l[k] :: l.drop (k + 1):=List.drop_eq_getElem_cons h
  have hl : (fold (l.take k)).length = k:=by simp [fold]; omega
  rw [List.set_append_right _ _ (by omega),hl,Nat.sub_self,e1,e2,List.set_cons_zero]
  unfold fold
  rw [List.map_append,List.append_assoc]
  rfl
end M1
end Go.Proofs.YteefodibpjgicaaGreat
