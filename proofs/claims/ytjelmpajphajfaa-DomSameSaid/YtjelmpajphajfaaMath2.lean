/- Plain facts on character references: what one stands for, texts decoded, texts written. No program in it. -/
import Derived.Test.YtjelmpajphajfaaMath1
import Derived.Lib.Bytealg
import Derived.Lib.IndexLaws
namespace Go.Proofs.Ytjelmpajphajfaa
namespace M2
open M1

/-- The names, and their characters. -/
def tbl : List (List UInt8 × Nat) :=
  [([97, 109, 112], 38), ([108, 116], 60), ([103, 116], 62), ([113, 117, 111, 116], 34), ([97, 112, 111, 115], 39), ([110, 98, 115, 112], 160), ([99, 111, 112, 121], 169), ([114, 101, 103], 174), ([100, 101, 103], 176),
   ([109, 105, 100, 100, 111, 116], 183), ([116, 105, 109, 101, 115], 215), ([110, 100, 97, 115, 104], 8211), ([109, 100, 97, 115, 104], 8212), ([104, 101, 108, 108, 105, 112], 8230), ([101, 117, 114, 111], 8364)]
def nm (s : List UInt8) : Option Nat := (tbl.find? (fun p => p.1 == s)).map (·.2)

theorem nm_mem {s : List UInt8} {n : Nat} (h : nm s = some n) : (s, n) ∈ tbl := by
  unfold nm at h
  obtain ⟨p, h1, h2⟩ := Option.map_eq_some_iff.1 h
  have h3 := List.mem_of_find?_eq_some h1
  have h4 := List.find?_some h1
  have h5 : p.1 = s := by simpa using h4
  rw [← h5, ← h2]
  exact h3
theorem nm_none {s : List UInt8} (h : ∀ p ∈ tbl, p.1 ≠ s) : nm s = none := by
  unfold nm
  rw [List.find?_eq_none.2 (fun p hp => by simpa using h p hp)]
  rfl
theorem tbl_facts : ∀ p ∈ tbl, p.1.length ≤ 6 ∧ 1 ≤ p.1.length ∧ (∀ c ∈ p.1, c.toNat < 128 ∧ c.toNat ≠ 59) ∧ p.1.head? ≠ some 35 ∧ okRune p.2 ∧ p.2 ≠ 0 ∧ p.2 ≠ 13 := by decide
theorem tbl_apart : tbl.Pairwise (fun p q => p.1 ≠ q.1) := by decide
theorem nm_of_mem {p : List UInt8 × Nat} (h : p ∈ tbl) : nm p.1 = some p.2 := by
  revert p
  decide

/-- What a digit of sixteen counts. -/
def digZ (r : Int) : Int := if 48 ≤ r ∧ r ≤ 57 then r - 48 else if 97 ≤ r ∧ r ≤ 102 then r - 97 + 10 else if 65 ≤ r ∧ r ≤ 70 then r - 65 + 10 else -1
theorem digZ_bd (r : Int) : -1 ≤ digZ r ∧ digZ r ≤ 15 := by
  unfold digZ
  repeat' split
  all_goals omega
theorem digZ_big (r : Int) (h : 128 ≤ r) : digZ r = -1 := by
  unfold digZ
  repeat' split
  all_goals omega
def isD (b : Nat) (c : UInt8) : Bool := decide (0 ≤ digZ c.toNat ∧ digZ c.toNat < b)
theorem isD_59 (b : Nat) : isD b 59 = false := by
  have : digZ ((59 : UInt8).toNat : Int) = -1 := by decide
  unfold isD
  rw [this]
  simp
theorem isD_ascii {b : Nat} {c : UInt8} (h : isD b c = true) : c.toNat < 128 := by
  unfold isD at h
  rcases Nat.lt_or_ge c.toNat 128 with h1 | h1
  · exact h1
  · rw [digZ_big _ (by omega)] at h
    simp at h

theorem isD_no {b : Nat} {c : UInt8} (h : isD b c = false) : digZ c.toNat < 0 ∨ (b : Int) ≤ digZ c.toNat := by
  unfold isD at h
  have := of_decide_eq_false h
  omega
theorem dec_lo (c : UInt8) (t : List UInt8) (h : c.toNat < 128) : dec (c :: t) = (c.toNat, 1) := by
  simp only [dec, List.getD_cons_zero]
  rw [if_pos h]
theorem dec_hi (c : UInt8) (t : List UInt8) (h : 128 ≤ c.toNat) : 128 ≤ (dec (c :: t)).1 := by
  rcases dec_cases (c :: t) (by simp) with ⟨h1, h2, _⟩ | ⟨h1, _⟩
  · rcases Nat.lt_or_ge (dec (c :: t)).1 128 with h3 | h3
    · exfalso
      obtain ⟨a, u, h4, h5, _⟩ := enc_head _ h1
      rw [h4] at h2
      have h6 : c = a := by simp at h2; exact h2.1
      have := h5 h3
      rw [← h6] at this
      omega
    · exact h3
  · rw [h1]; decide

def val (b : Nat) : List UInt8 → Int
  | [] => 0
  | c :: t => digZ c.toNat * (b : Int) ^ t.length + val b t
theorem val_snoc (b : Nat) (l : List UInt8) (c : UInt8) : val b (l ++ [c]) = val b l * b + digZ c.toNat := by
  induction l with
  | nil => simp [val]
  | cons d t ih =>
    rw [List.cons_append, val, val, ih, List.length_append, List.length_singleton, Int.pow_succ, Int.add_mul, ← Int.mul_assoc]
    omega
theorem val_bd (b : Nat) (l : List UInt8) (h : ∀ c ∈ l, isD b c = true) : 0 ≤ val b l ∧ val b l < (b : Int) ^ l.length := by
  induction l with
  | nil => simp [val]
  | cons d t ih =>
    have ih := ih (fun c hc => h c (by simp [hc]))
    have hd := h d (by simp)
    unfold isD at hd
    have hd := of_decide_eq_true hd
    rw [val, List.length_cons, Int.pow_succ]
    have h1 : digZ d.toNat + 1 ≤ b := by omega
    have h2 : (digZ d.toNat + 1) * (b : Int) ^ t.length ≤ b * (b : Int) ^ t.length := Int.mul_le_mul_of_nonneg_right h1 (by omega)
    have h3 : 0 ≤ digZ d.toNat * (b : Int) ^ t.length := Int.mul_nonneg hd.1 (by omega)
    rw [Int.add_mul, Int.one_mul] at h2
    rw [Int.mul_comm ((b : Int) ^ t.length) b]
    omega

/-- The digits at the beginning, at most m of them. -/
def digs (b m : Nat) (l : List UInt8) : List UInt8 := (l.takeWhile (isD b)).take m
theorem digs_all (b m : Nat) (l : List UInt8) : ∀ c ∈ digs b m l, isD b c = true := fun c hc => by
  have h1 := List.mem_of_mem_take hc
  have h2 : l.takeWhile (isD b) = l.takeWhile (isD b) := rfl
  exact (List.all_eq_true.1 (List.all_takeWhile (l := l) (p := isD b))) c h1
theorem digs_len (b m : Nat) (l : List UInt8) : (digs b m l).length ≤ m ∧ (digs b m l).length ≤ l.length := by
  unfold digs
  rw [List.length_take]
  have := (List.takeWhile_sublist (l := l) (isD b)).length_le
  omega
theorem digs_of (b m : Nat) (l : List UInt8) (k : Nat) (hk : k ≤ l.length) (hm : k ≤ m) (ha : ∀ c ∈ l.take k, isD b c = true) (he : k = m ∨ k = l.length ∨ ∃ c, l[k]? = some c ∧ isD b c = false) : digs b m l = l.take k := by
  have h1 : l.takeWhile (isD b) = l.take k ++ (l.drop k).takeWhile (isD b) := by
    conv => lhs; rw [← List.take_append_drop k l]
    rw [List.takeWhile_append_of_pos ha]
  unfold digs
  rw [h1]
  have hl : (l.take k).length = k := by rw [List.length_take]; omega
  rcases he with rfl | rfl | ⟨c, hc, hn⟩
  · rw [List.take_append_of_le_length (by omega), List.take_of_length_le (by omega)]
  · rw [List.drop_length, List.takeWhile_nil, List.append_nil, List.take_of_length_le (by omega)]
  · have h2 : l.drop k = c :: l.drop (k + 1) := by
      obtain ⟨h3, h4⟩ := List.getElem?_eq_some_iff.1 hc
      rw [List.drop_eq_getElem_cons h3, h4]
    rw [h2, List.takeWhile_cons, hn, if_neg (by simp), List.append_nil, List.take_of_length_le (by omega)]
theorem digs_prefix (b m : Nat) (l : List UInt8) : digs b m l = l.take (digs b m l).length := by
  have h1 : l.takeWhile (isD b) <+: l := List.takeWhile_prefix _
  have h2 : digs b m l <+: l := (List.take_prefix _ _).trans h1
  exact (List.prefix_iff_eq_take.1 h2)

/-- A number's character. -/
def chr (n : Int) : Int := if n = 0 ∨ n = 13 ∨ (55296 ≤ n ∧ n ≤ 57343) ∨ 1114111 < n then 65533 else n
theorem chr_ok (n : Int) (h : 0 ≤ n) : okRune (chr n) ∧ chr n ≠ 0 ∧ chr n ≠ 13 := by
  unfold chr okRune
  split <;> omega

/-- A reference by a number, its digits from place f on: what it stands for, and its length. -/
def num (f b m : Nat) (l : List UInt8) : Option (Int × Nat) :=
  if (digs b m (l.drop f)).length = 0 ∨ l[f + (digs b m (l.drop f)).length]? ≠ some 59 then none
  else some (chr (val b (digs b m (l.drop f))), f + (digs b m (l.drop f)).length + 1)
/-- A reference by a name. -/
def near (l : List UInt8) : List UInt8 := (l.drop 1).take 7
def named (l : List UInt8) : Option (Int × Nat) :=
  if Lib.indexByte (near l) 59 < 0 then none
  else (nm ((near l).take (Lib.indexByte (near l) 59).toNat)).map (fun (r : Nat) => ((r : Int), 1 + (Lib.indexByte (near l) 59).toNat + 1))
/-- The reference at the beginning. -/
def one (l : List UInt8) : Option (Int × Nat) :=
  if l.head? ≠ some 38 then none
  else if l.take 3 = [38, 35, 120] ∨ l.take 3 = [38, 35, 88] then num 3 16 6 l
  else if l.take 2 = [38, 35] then num 2 10 7 l
  else named l

/-- The document's own way: what stands between & and ; told. -/
def numR (b m : Nat) (ds : List UInt8) : Option Int := if 1 ≤ ds.length ∧ ds.length ≤ m ∧ ds.all (isD b) = true then some (chr (val b ds)) else none
def ownB (own : List UInt8) : Option Int :=
  if own.take 2 = [35, 120] ∨ own.take 2 = [35, 88] then numR 16 6 (own.drop 2)
  else if own.take 1 = [35] then numR 10 7 (own.drop 1)
  else (nm own).map Int.ofNat

theorem not_mem_get {l : List UInt8} {c : UInt8} (h : c ∉ l) (k : Nat) : l[k]? ≠ some c := fun e => h (List.mem_of_getElem? e)

theorem num_own (b m : Nat) (pre ds rest : List UInt8) (h59 : (59 : UInt8) ∉ ds) : num pre.length b m (pre ++ (ds ++ 59 :: rest)) = (numR b m ds).map (fun r => (r, pre.length + ds.length + 1)) := by
  have hd : (pre ++ (ds ++ 59 :: rest)).drop pre.length = ds ++ 59 :: rest := List.drop_left
  have hg : ∀ k, (pre ++ (ds ++ 59 :: rest))[pre.length + k]? = (ds ++ 59 :: rest)[k]? := fun k => by rw [List.getElem?_append_right (by omega)]; congr 1; omega
  unfold num
  rw [hd, hg]
  by_cases hall : ds.all (isD b) = true
  · have ha := List.all_eq_true.1 hall
    by_cases hm : ds.length ≤ m
    · have e : digs b m (ds ++ 59 :: rest) = ds := by
        have := digs_of b m (ds ++ 59 :: rest) ds.length (by simp) hm (by rw [List.take_left]; exact ha) (Or.inr (Or.inr ⟨59, by simp, isD_59 b⟩))
        rwa [List.take_left] at this
      rw [e]
      by_cases h0 : ds.length = 0
      · rw [if_pos (Or.inl h0), numR, if_neg (by omega)]; rfl
      · rw [if_neg (by simp [h0]), numR, if_pos ⟨by omega, hm, hall⟩]; rfl
    · have e : digs b m (ds ++ 59 :: rest) = ds.take m := by
        have := digs_of b m (ds ++ 59 :: rest) m (by simp; omega) (Nat.le_refl _) (by rw [List.take_append_of_le_length (by omega)]; exact fun c hc => ha c (List.mem_of_mem_take hc)) (Or.inl rfl)
        rwa [List.take_append_of_le_length (by omega)] at this
      have el : (ds.take m).length = m := by rw [List.length_take]; omega
      rw [e, el, if_pos (Or.inr ?_), numR, if_neg (by omega)]
      · rfl
      · rw [List.getElem?_append_left (by omega)]
        exact not_mem_get h59 m
  · have hnr : numR b m ds = none := if_neg (fun h => hall h.2.2)
    rw [hnr]
    have hp := digs_prefix b m (ds ++ 59 :: rest)
    have ha := digs_all b m (ds ++ 59 :: rest)
    have hl : (digs b m (ds ++ 59 :: rest)).length < ds.length := by
      rcases Nat.lt_or_ge (digs b m (ds ++ 59 :: rest)).length ds.length with h | h
      · exact h
      · exfalso
        apply hall
        rw [List.all_eq_true]
        intro c hc
        refine ha c ?_
        rw [hp, List.take_append, List.take_of_length_le h]
        simp [hc]
    rw [if_pos (Or.inr ?_)]
    · rfl
    · rw [List.getElem?_append_left hl]
      exact not_mem_get h59 _
theorem num_none (f b m : Nat) (l : List UInt8) (h : (59 : UInt8) ∉ l) : num f b m l = none := by
  unfold num
  rw [if_pos (Or.inr (not_mem_get h _))]

theorem indexByte_no (l : List UInt8) (c : UInt8) (h : c ∉ l) : Lib.indexByte l c = -1 := by
  induction l with
  | nil => rfl
  | cons d t ih =>
    unfold Lib.indexByte
    have h1 : d ≠ c := fun e => h (by simp [e])
    rw [if_neg (by simpa using h1), ih (fun e => h (by simp [e]))]
    rfl
theorem indexByte_at (a t : List UInt8) (c : UInt8) (h : c ∉ a) : Lib.indexByte (a ++ c :: t) c = a.length := by
  induction a with
  | nil => simp [Lib.indexByte]
  | cons d a ih =>
    have ih := ih (fun e => h (by simp [e]))
    have h1 : d ≠ c := fun e => h (by simp [e])
    rw [List.cons_append, Lib.indexByte, if_neg (by simpa using h1), ih, if_neg (by simp)]
    simp

theorem named_own (own rest : List UInt8) (h59 : (59 : UInt8) ∉ own) : named (38 :: (own ++ 59 :: rest)) = (nm own).map (fun (r : Nat) => ((r : Int), own.length + 2)) := by
  have hn : near (38 :: (own ++ 59 :: rest)) = (own ++ 59 :: rest).take 7 := rfl
  unfold named
  rw [hn]
  by_cases h : own.length ≤ 6
  · have e : (own ++ 59 :: rest).take 7 = own ++ 59 :: rest.take (6 - own.length) := by
      rw [List.take_append, List.take_of_length_le (by omega)]
      congr 1
      rw [show 7 - own.length = (6 - own.length) + 1 by omega, List.take_succ_cons]
    rw [e, indexByte_at _ _ _ h59, if_neg (by omega)]
    simp only [Int.toNat_natCast, List.take_left]
    congr 1
    funext r
    rw [show 1 + own.length + 1 = own.length + 2 by omega]
  · have e : (own ++ 59 :: rest).take 7 = own.take 7 := List.take_append_of_le_length (by omega)
    rw [e, indexByte_no _ _ (fun hc => h59 (List.mem_of_mem_take hc)), if_pos (by omega)]
    cases hno : nm own with
    | none => rfl
    | some n => exact absurd (tbl_facts _ (nm_mem hno)).1 h

theorem take3_cons (a : UInt8) (l : List UInt8) : (a :: l).take 3 = a :: l.take 2 := rfl
/-- (A) A reference's own bytes are those up to the first ;. -/
theorem one_own (own rest : List UInt8) (h59 : (59 : UInt8) ∉ own) : one (38 :: (own ++ 59 :: rest)) = (ownB own).map (fun r => (r, own.length + 2)) := by
  unfold one ownB
  rw [if_neg (by simp)]
  match own, h59 with
  | [], h59 =>
    rw [if_neg (by simp), if_neg (by simp), if_neg (by simp), if_neg (by simp), named_own [] rest h59]
    cases nm [] <;> rfl
  | [c], h59 =>
    by_cases hc : c = 35
    · subst hc
      have := num_own 10 7 [38, 35] [] rest (by simp)
      rw [if_neg (by simp), if_pos (by simp), if_neg (by simp), if_pos (by simp)]
      exact this
    · rw [if_neg (by simp [hc]), if_neg (by simp [hc]), if_neg (by simp [hc]), if_neg (by simp [hc]), named_own [c] rest h59]
      cases nm [c] <;> rfl
  | c :: d :: ds, h59 =>
    by_cases hc : c = 35
    · subst hc
      by_cases hd : d = 120 ∨ d = 88
      · have := num_own 16 6 [38, 35, d] ds rest (by simp at h59; exact h59.2)
        rw [if_pos (by simpa using hd), if_pos (by simpa using hd)]
        rw [show 38 :: (35 :: d :: ds ++ 59 :: rest) = [38, 35, d] ++ (ds ++ 59 :: rest) by simp]
        rw [show (3 : Nat) = ([38, 35, d] : List UInt8).length from rfl, this]
        simp only [List.drop_succ_cons, List.drop_zero, List.length_cons, List.length_nil]
        congr 1
        funext r
        rw [show 0 + 1 + 1 + 1 + ds.length + 1 = ds.length + 1 + 1 + 2 by omega]
      · have hd' : ¬ (d = 120) ∧ ¬ (d = 88) := by
          constructor
          · exact fun e => hd (Or.inl e)
          · exact fun e => hd (Or.inr e)
        have := num_own 10 7 [38, 35] (d :: ds) rest (by simp at h59 ⊢; exact h59)
        rw [if_neg (by simp [hd'.1, hd'.2]), if_pos (by simp), if_neg (by simp [hd'.1, hd'.2]), if_pos (by simp)]
        rw [show 38 :: (35 :: d :: ds ++ 59 :: rest) = [38, 35] ++ (d :: ds ++ 59 :: rest) by simp]
        rw [show (2 : Nat) = ([38, 35] : List UInt8).length from rfl, this]
        simp only [List.drop_succ_cons, List.drop_zero, List.length_cons, List.length_nil]
        congr 1
        funext r
        rw [show 0 + 1 + 1 + (ds.length + 1) + 1 = ds.length + 1 + (0 + 1 + 1 + 1) by omega]
    · rw [if_neg (by simp [hc]), if_neg (by simp [hc]), if_neg (by simp [hc]), if_neg (by simp [hc]), named_own _ rest h59]
      cases nm (c :: d :: ds) <;> rfl
theorem one_none (t : List UInt8) (h : (59 : UInt8) ∉ t) : one (38 :: t) = none := by
  have h' : (59 : UInt8) ∉ (38 :: t) := by simp [h]
  unfold one
  rw [if_neg (by simp), num_none _ _ _ _ h', num_none _ _ _ _ h']
  split
  · rfl
  split
  · rfl
  have hn : near (38 :: t) = t.take 7 := rfl
  unfold named
  rw [hn, indexByte_no _ _ (fun hc => h (List.mem_of_mem_take hc)), if_pos (by omega)]
theorem one_not (l : List UInt8) (h : l.head? ≠ some 38) : one l = none := if_pos h

/-- Either there is no ; or one is the first. -/
theorem semi_cases (t : List UInt8) : (59 : UInt8) ∉ t ∨ ∃ own rest, t = own ++ 59 :: rest ∧ (59 : UInt8) ∉ own := by
  induction t with
  | nil => left; simp
  | cons c t ih =>
    by_cases hc : c = 59
    · right; exact ⟨[], t, by rw [hc]; rfl, by simp⟩
    · rcases ih with h | ⟨own, rest, rfl, h⟩
      · left; simp [Ne.symm hc, h]
      · right; exact ⟨c :: own, rest, rfl, by simp [Ne.symm hc, h]⟩

/-- What a reference's own bytes may be: none of them is above 127; and what they stand for may be. -/
theorem ownB_ok {own : List UInt8} {r : Int} (h : ownB own = some r) : okRune r ∧ r ≠ 0 ∧ r ≠ 13 := by
  unfold ownB at h
  have hn : ∀ b m ds, numR b m ds = some r → okRune r ∧ r ≠ 0 ∧ r ≠ 13 := by
    intro b m ds h
    unfold numR at h
    split at h
    · rename_i hc
      cases h
      exact chr_ok _ (val_bd b ds (List.all_eq_true.1 hc.2.2)).1
    · cases h
  split at h
  · exact hn _ _ _ h
  split at h
  · exact hn _ _ _ h
  · obtain ⟨n, h1, rfl⟩ := Option.map_eq_some_iff.1 h
    have := (tbl_facts _ (nm_mem h1)).2.2.2.2
    refine ⟨this.1, ?_, ?_⟩
    · intro e; exact this.2.1 (by simpa using Int.ofNat_eq_zero.1 e)
    · intro e; exact this.2.2 (Int.ofNat.inj e)
theorem one_some {l : List UInt8} {r : Int} {n : Nat} (h : one l = some (r, n)) : ∃ own rest, l = 38 :: (own ++ 59 :: rest) ∧ n = own.length + 2 ∧ ownB own = some r := by
  cases l with
  | nil => rw [one_not _ (by simp)] at h; cases h
  | cons c t =>
    by_cases hc : c = 38
    · subst hc
      rcases semi_cases t with h1 | ⟨own, rest, rfl, h1⟩
      · rw [one_none t h1] at h; cases h
      · rw [one_own own rest h1] at h
        obtain ⟨r', h2, h3⟩ := Option.map_eq_some_iff.1 h
        cases h3
        exact ⟨own, rest, rfl, rfl, h2⟩
    · rw [one_not _ (by simpa using hc)] at h; cases h
theorem one_bd {l : List UInt8} {r : Int} {n : Nat} (h : one l = some (r, n)) : 2 ≤ n ∧ n ≤ l.length ∧ okRune r ∧ r ≠ 0 ∧ r ≠ 13 := by
  obtain ⟨own, rest, rfl, rfl, h2⟩ := one_some h
  have := ownB_ok h2
  exact ⟨by omega, by simp only [List.length_cons, List.length_append]; omega, this⟩
/-- What One answers. -/
def oneR (l : List UInt8) : Int := ((one l).map (·.1)).getD 0
def oneN (l : List UInt8) : Nat := ((one l).map (·.2)).getD 0
theorem oneR_bd (l : List UInt8) : 0 ≤ oneR l ∧ oneR l ≤ 1114111 := by
  unfold oneR
  cases h : one l with
  | none => simp
  | some p =>
    have := (one_bd (r := p.1) (n := p.2) (by rw [h])).2.2.1
    unfold okRune at this
    simp
    omega
theorem oneN_le (l : List UInt8) : oneN l ≤ l.length := by
  unfold oneN
  cases h : one l with
  | none => simp
  | some p => exact (one_bd (r := p.1) (n := p.2) (by rw [h])).2.1

/-! ### Decoded -/
def decode (l : List UInt8) : List UInt8 :=
  match l with
  | [] => []
  | c :: t => match one (c :: t) with
    | some (r, n) => enc r ++ decode (t.drop (n - 1))
    | none => c :: decode t
termination_by l.length
decreasing_by all_goals simp <;> omega
theorem decode_nil : decode [] = [] := by rw [decode]
theorem decode_ref {l : List UInt8} {r : Int} {n : Nat} (h : one l = some (r, n)) : decode l = enc r ++ decode (l.drop n) := by
  obtain ⟨own, rest, rfl, rfl, h2⟩ := one_some h
  rw [decode, h]
  simp
theorem decode_byte {c : UInt8} {t : List UInt8} (h : one (c :: t) = none) : decode (c :: t) = c :: decode t := by
  rw [decode, h]
theorem decode_plain {c : UInt8} (t : List UInt8) (h : c ≠ 38) : decode (c :: t) = c :: decode t := decode_byte (one_not _ (by simpa using h))
theorem decode_past (a t : List UInt8) (h : (38 : UInt8) ∉ a) : decode (a ++ t) = a ++ decode t := by
  induction a with
  | nil => rfl
  | cons c a ih =>
    rw [List.cons_append, decode_plain _ (fun e => h (by simp [e])), ih (fun e => h (by simp [e]))]
    rfl
theorem decode_self (l : List UInt8) (h : (38 : UInt8) ∉ l) : decode l = l := by
  have := decode_past l [] h
  rwa [List.append_nil, decode_nil, List.append_nil] at this
theorem enc_len_le (r : Int) : (enc r).length ≤ 4 ∧ 1 ≤ (enc r).length := by
  have := Lib.encodeRuneZ_length r
  have e : (enc r).length = (Lib.encodeRuneZ r).length := by simp [enc, Lib.encodeRune]
  omega
theorem decode_len : ∀ (n : Nat) (l : List UInt8), l.length ≤ n → (decode l).length ≤ 4 * l.length := by
  intro n
  induction n with
  | zero => intro l hl; have : l = [] := List.eq_nil_of_length_eq_zero (by omega); subst this; rw [decode_nil]; simp
  | succ n ih =>
    intro l hl
    cases l with
    | nil => rw [decode_nil]; simp
    | cons c t =>
      cases h : one (c :: t) with
      | none =>
        have := ih t (by simp at hl; omega)
        rw [decode_byte h]
        simp; omega
      | some p =>
        have hb := one_bd (r := p.1) (n := p.2) h
        have := ih ((c :: t).drop p.2) (by rw [List.length_drop]; omega)
        have he := enc_len_le p.1
        rw [decode_ref (r := p.1) (n := p.2) h, List.length_append]
        rw [List.length_drop] at this
        omega

/-! ### Written -/
def esc (v : Bool) (c : UInt8) : List UInt8 := if c = 38 then [38, 97, 109, 112, 59] else if c = 60 then [38, 108, 116, 59] else if c = 62 then [38, 103, 116, 59] else if c = 34 ∧ v = true then [38, 113, 117, 111, 116, 59] else [c]
def escape (v : Bool) (l : List UInt8) : List UInt8 := l.flatMap (esc v)
theorem escape_append (v : Bool) (a b : List UInt8) : escape v (a ++ b) = escape v a ++ escape v b := by simp [escape]
theorem escape_cons (v : Bool) (c : UInt8) (t : List UInt8) : escape v (c :: t) = esc v c ++ escape v t := by simp [escape]
theorem esc_len (v : Bool) (c : UInt8) : (esc v c).length ≤ 6 := by
  unfold esc
  repeat' split
  all_goals simp
theorem escape_len (v : Bool) (l : List UInt8) : (escape v l).length ≤ 6 * l.length := by
  induction l with
  | nil => simp [escape]
  | cons c t ih =>
    have := esc_len v c
    rw [escape_cons, List.length_append, List.length_cons]
    omega
theorem decode_name (own t : List UInt8) (n : Nat) (c : UInt8) (h59 : (59 : UInt8) ∉ own) (h : ownB own = some (n : Int)) (he : enc n = [c]) : decode (38 :: (own ++ 59 :: t)) = c :: decode t := by
  have h1 := one_own own t h59
  rw [h] at h1
  rw [decode_ref h1, he]
  simp
theorem decode_esc (v : Bool) (c : UInt8) (t : List UInt8) : decode (esc v c ++ t) = c :: decode t := by
  unfold esc
  split
  · rename_i e; subst e
    exact decode_name [97, 109, 112] t 38 38 (by decide) (by decide) (by decide)
  split
  · rename_i e; subst e
    exact decode_name [108, 116] t 60 60 (by decide) (by decide) (by decide)
  split
  · rename_i e; subst e
    exact decode_name [103, 116] t 62 62 (by decide) (by decide) (by decide)
  split
  · rename_i e; obtain ⟨rfl, _⟩ := e
    exact decode_name [113, 117, 111, 116] t 34 34 (by decide) (by decide) (by decide)
  · rename_i h _ _ _
    exact decode_plain t h
theorem decode_escape_past (v : Bool) (l t : List UInt8) : decode (escape v l ++ t) = l ++ decode t := by
  induction l with
  | nil => rfl
  | cons c l ih => rw [escape_cons, List.append_assoc, decode_esc, ih]; rfl
theorem decode_escape (v : Bool) (l : List UInt8) : decode (escape v l) = l := by
  have := decode_escape_past v l []
  rwa [List.append_nil, decode_nil, List.append_nil] at this
theorem esc_bare (c : UInt8) : ∀ x ∈ esc true c, x ≠ 60 ∧ x ≠ 62 ∧ x ≠ 34 := by
  unfold esc
  split
  · decide
  split
  · decide
  split
  · decide
  split
  · decide
  · rename_i h1 h2 h3 h4
    intro x hx
    simp at hx
    subst hx
    exact ⟨h2, h3, fun e => h4 ⟨e, rfl⟩⟩
theorem escape_bare (l : List UInt8) : ∀ x ∈ escape true l, x ≠ 60 ∧ x ≠ 62 ∧ x ≠ 34 := by
  intro x hx
  obtain ⟨c, _, h⟩ := List.mem_flatMap.1 hx
  exact esc_bare c x h

/-! ### Right texts -/
def okT (rs : List Int) : Prop := ∀ r ∈ rs, okRune r ∧ r ≠ 0 ∧ r ≠ 13
theorem right_iff (l : List UInt8) : isB l = true ↔ ∃ rs, okT rs ∧ l = text rs := by
  constructor
  · intro h
    exact ⟨_, right_ok l, ((isB_right_iff l).1 h).symm⟩
  · rintro ⟨rs, h, rfl⟩
    rw [isB_right_iff]
    have h1 := runes_text rs (fun r hr => (h r hr).1) []
    rw [List.append_nil, runes_nil, List.append_nil] at h1
    unfold right
    rw [h1, mk_fix _ (fun r hr => (h r hr).2)]
theorem enc_high (r : Int) (h : okRune r) (h1 : 128 ≤ r) : ∀ x ∈ enc r, 128 ≤ x.toNat := by
  obtain ⟨n, rfl⟩ : ∃ n : Nat, r = n := ⟨r.toNat, by omega⟩
  have hn : (128 ≤ n ∧ n ≤ 2047) ∨ ((2048 ≤ n ∧ n < 55296) ∨ (57343 < n ∧ n ≤ 65535)) ∨ (65536 ≤ n ∧ n ≤ 1114111) := by unfold okRune at h; omega
  intro x hx
  rcases hn with ⟨h1, h2⟩ | h1 | ⟨h1, h2⟩
  · rw [enc2 n h1 h2] at hx
    simp only [List.mem_cons, List.not_mem_nil, or_false] at hx
    rcases hx with rfl | rfl <;> (rw [toNat_u8 _ (by omega)]; omega)
  · rw [enc3 n h1] at hx
    simp only [List.mem_cons, List.not_mem_nil, or_false] at hx
    rcases hx with rfl | rfl | rfl <;> (rw [toNat_u8 _ (by omega)]; omega)
  · rw [enc4 n h1 h2] at hx
    simp only [List.mem_cons, List.not_mem_nil, or_false] at hx
    rcases hx with rfl | rfl | rfl | rfl <;> (rw [toNat_u8 _ (by omega)]; omega)
theorem enc_low (r : Int) (h : 0 ≤ r) (h1 : r < 128) : enc r = [r.toNat.toUInt8] := by
  obtain ⟨n, rfl⟩ : ∃ n : Nat, r = n := ⟨r.toNat, by omega⟩
  exact enc1 n (by omega)
/-- Behind a byte below 128 a text of characters goes on as one. -/
theorem text_cut : ∀ (rs : List Int) (p : List UInt8) (c : UInt8) (rest : List UInt8), okT rs → text rs = p ++ c :: rest → c.toNat < 128 → ∃ rs2, okT rs2 ∧ rest = text rs2
  | [], p, c, rest, _, h, _ => by simp [text] at h
  | r :: rs, p, c, rest, ho, h, hc => by
    have hor := ho r (by simp)
    have ho' : okT rs := fun x hx => ho x (by simp [hx])
    rw [text_cons] at h
    rcases Nat.lt_or_ge p.length (enc r).length with hl | hl
    · by_cases hr : 128 ≤ r
      · exfalso
        have h1 : (enc r)[p.length]? = some c := by
          have := congrArg (fun l => l[p.length]?) h
          simp only [List.getElem?_append_left hl] at this
          rw [this]
          simp
        have := enc_high r hor.1 hr c (List.mem_of_getElem? h1)
        omega
      · have h00 : 0 ≤ r := by
          have := hor.1
          unfold okRune at this
          omega
        have e := enc_low r h00 (by omega)
        rw [e] at h hl
        have hl1 : p.length < 1 := hl
        have hp : p = [] := List.eq_nil_of_length_eq_zero (by omega)
        subst hp
        simp at h
        exact ⟨rs, ho', h.2.symm⟩
    · have h1 : p = enc r ++ p.drop (enc r).length := by
        have := congrArg (List.take (enc r).length) h
        rw [List.take_left, List.take_append_of_le_length hl] at this
        conv => lhs; rw [← List.take_append_drop (enc r).length p]
        rw [← this]
      rw [h1, List.append_assoc] at h
      exact text_cut rs _ c rest ho' (List.append_cancel_left h) hc
theorem decode_right : ∀ (n : Nat) (rs : List Int), (text rs).length ≤ n → okT rs → ∃ rs', okT rs' ∧ decode (text rs) = text rs' := by
  intro n
  induction n with
  | zero =>
    intro rs hn ho
    have := text_len rs
    have h : rs = [] := List.eq_nil_of_length_eq_zero (by omega)
    subst h
    exact ⟨[], ho, by rw [show text [] = [] from rfl, decode_nil]⟩
  | succ n ih =>
    intro rs hn ho
    match rs, ho with
    | [], ho => exact ⟨[], ho, by rw [show text [] = [] from rfl, decode_nil]⟩
    | r :: rs, ho =>
      have hor := ho r (by simp)
      have ho' : okT rs := fun x hx => ho x (by simp [hx])
      have hel := enc_len_le r
      rw [text_cons] at hn ⊢
      rw [List.length_append] at hn
      have plain : (38 : UInt8) ∉ enc r → ∃ rs', okT rs' ∧ decode (enc r ++ text rs) = text rs' := by
        intro h
        obtain ⟨rs', h1, h2⟩ := ih rs (by omega) ho'
        refine ⟨r :: rs', ?_, ?_⟩
        · intro x hx
          rcases List.mem_cons.1 hx with rfl | hx
          · exact hor
          · exact h1 x hx
        · rw [decode_past _ _ h, h2, text_cons]
      by_cases hr : 128 ≤ r
      · exact plain (fun hm => by have h1 := enc_high r hor.1 hr _ hm; exact absurd h1 (by decide))
      have h00 : 0 ≤ r := by
        have := hor.1
        unfold okRune at this
        omega
      have e := enc_low r h00 (by omega)
      by_cases h38 : r = 38
      · subst h38
        have e : enc 38 = [38] := by decide
        rw [e] at hn ⊢
        cases h : one ([38] ++ text rs) with
        | none =>
          obtain ⟨rs', h1, h2⟩ := ih rs (by simp at hn; omega) ho'
          refine ⟨38 :: rs', ?_, ?_⟩
          · intro x hx
            rcases List.mem_cons.1 hx with rfl | hx
            · decide
            · exact h1 x hx
          · rw [show ([38] : List UInt8) ++ text rs = 38 :: text rs from rfl] at h ⊢
            rw [decode_byte h, h2, text_cons, e]
            rfl
        | some p =>
          obtain ⟨q, k⟩ := p
          obtain ⟨own, rest, h1, h2, h3⟩ := one_some h
          have hq := ownB_ok h3
          rw [decode_ref h, h1]
          have hd : (38 :: (own ++ 59 :: rest)).drop k = rest := by rw [h2]; simp
          rw [hd]
          have h4 : text rs = own ++ 59 :: rest := by simpa using h1
          obtain ⟨rs2, h5, h6⟩ := text_cut rs own 59 rest ho' h4 (by decide)
          obtain ⟨rs', h7, h8⟩ := ih rs2 (by rw [← h6]; rw [h4] at hn; simp at hn; omega) h5
          refine ⟨q :: rs', ?_, ?_⟩
          · intro x hx
            rcases List.mem_cons.1 hx with rfl | hx
            · exact hq
            · exact h7 x hx
          · rw [h6, h8, text_cons]
      · refine plain ?_
        rw [e]
        intro hm
        simp only [List.mem_singleton] at hm
        have h1 := congrArg UInt8.toNat hm
        rw [toNat_u8 _ (by omega)] at h1
        have : (38 : UInt8).toNat = 38 := rfl
        have h0 : 0 ≤ r := by have := hor.1; unfold okRune at this; omega
        omega
theorem isB_decode (l : List UInt8) (h : isB l = true) : isB (decode l) = true := by
  obtain ⟨rs, ho, rfl⟩ := (right_iff l).1 h
  obtain ⟨rs', h1, h2⟩ := decode_right _ rs (Nat.le_refl _) ho
  rw [h2]
  exact (right_iff _).2 ⟨rs', h1, rfl⟩
/-- A text below 128 is its bytes' text. -/
theorem low_text (l : List UInt8) (h : ∀ c ∈ l, c.toNat < 128 ∧ c ≠ 0 ∧ c ≠ 13) : ∃ rs, okT rs ∧ l = text rs := by
  induction l with
  | nil => exact ⟨[], by simp [okT], rfl⟩
  | cons c l ih =>
    obtain ⟨rs, h1, h2⟩ := ih (fun x hx => h x (by simp [hx]))
    have hc := h c (by simp)
    refine ⟨(c.toNat : Int) :: rs, ?_, ?_⟩
    · intro x hx
      rcases List.mem_cons.1 hx with rfl | hx
      · refine ⟨by unfold okRune; omega, ?_, ?_⟩
        · intro e
          exact hc.2.1 (UInt8.toNat_inj.1 (by simpa using (by omega : c.toNat = 0)))
        · intro e
          exact hc.2.2 (UInt8.toNat_inj.1 (by simpa using (by omega : c.toNat = 13)))
      · exact h1 x hx
    · rw [text_cons, enc1 _ (by omega), u8_of_toNat c _ rfl, ← h2]
      rfl
theorem escape_right : ∀ (rs : List Int), okT rs → ∃ rs', okT rs' ∧ escape true (text rs) = text rs'
  | [], ho => ⟨[], ho, rfl⟩
  | r :: rs, ho => by
    have hor := ho r (by simp)
    obtain ⟨rs', h1, h2⟩ := escape_right rs (fun x hx => ho x (by simp [hx]))
    have key : ∃ q, okT q ∧ escape true (enc r) = text q := by
      by_cases hr : 128 ≤ r
      · have hh := enc_high r hor.1 hr
        have hsame : ∀ l : List UInt8, (∀ x ∈ l, 128 ≤ x.toNat) → escape true l = l := by
          intro l
          induction l with
          | nil => intro _; rfl
          | cons c l ih =>
            intro h
            have hc := h c (by simp)
            have n1 : ¬ c = 38 := fun e => by subst e; exact absurd hc (by decide)
            have n2 : ¬ c = 60 := fun e => by subst e; exact absurd hc (by decide)
            have n3 : ¬ c = 62 := fun e => by subst e; exact absurd hc (by decide)
            have n4 : ¬ c = 34 := fun e => by subst e; exact absurd hc (by decide)
            rw [escape_cons, ih (fun x hx => h x (by simp [hx])), esc, if_neg n1, if_neg n2, if_neg n3, if_neg (fun e => n4 e.1)]
            rfl
        refine ⟨[r], ?_, ?_⟩
        · intro x hx
          simp at hx
          subst hx
          exact hor
        · rw [hsame _ hh]
          simp [text]
      · have h0 : 0 ≤ r := by have := hor.1; unfold okRune at this; omega
        have e := enc_low r h0 (by omega)
        rw [e]
        refine low_text _ ?_
        intro x hx
        rw [escape_cons] at hx
        simp only [escape, List.flatMap_nil, List.append_nil] at hx
        unfold esc at hx
        split at hx
        · revert x; decide
        split at hx
        · revert x; decide
        split at hx
        · revert x; decide
        split at hx
        · revert x; decide
        · simp only [List.mem_singleton] at hx
          subst hx
          have t := toNat_u8 r.toNat (by omega)
          refine ⟨by omega, ?_, ?_⟩
          · intro e2
            have := congrArg UInt8.toNat e2
            rw [t] at this
            have e3 : (0 : UInt8).toNat = 0 := rfl
            exact hor.2.1 (by omega)
          · intro e2
            have := congrArg UInt8.toNat e2
            rw [t] at this
            have e3 : (13 : UInt8).toNat = 13 := rfl
            exact hor.2.2 (by omega)
    obtain ⟨q, h3, h4⟩ := key
    refine ⟨q ++ rs', ?_, ?_⟩
    · intro x hx
      rcases List.mem_append.1 hx with hx | hx
      · exact h3 x hx
      · exact h1 x hx
    · rw [text_cons, escape_append, h4, h2, text_append]
theorem isB_escape (l : List UInt8) (h : isB l = true) : isB (escape true l) = true := by
  obtain ⟨rs, ho, rfl⟩ := (right_iff l).1 h
  obtain ⟨rs', h1, h2⟩ := escape_right rs ho
  rw [h2]
  exact (right_iff _).2 ⟨rs', h1, rfl⟩
end M2
end Go.Proofs.Ytjelmpajphajfaa
