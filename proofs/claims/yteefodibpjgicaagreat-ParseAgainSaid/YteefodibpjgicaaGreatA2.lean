/- Texts joined: Math2, Math3. -/
import Derived.Lib.Bytealg
import Derived.Lib.IndexLaws
import Derived.Lib.Strings
import Derived.Test.YteefodibpjgicaaGreatA1
namespace Go.Proofs.YteefodibpjgicaaGreat
namespace M2
open M1
def tbl : List (List UInt8 × Nat) :=
  [([97,109,112],38),([108,116],60),([103,116],62),([113,117,111,116],34),([97,112,111,115],39),([110,98,115,112],160),([99,111,112,121],169),([114,101,103],174),([100,101,103],176),
   ([109,105,100,100,111,116],183),([116,105,109,101,115],215),([110,100,97,115,104],8211),([109,100,97,115,104],8212),([104,101,108,108,105,112],8230),([101,117,114,111],8364)]
def nm (s : List UInt8) : Option Nat:=(tbl.find? (fun p => p.1 == s)).map (·.2)
theorem nm_mem {s : List UInt8} {n : Nat} (h : nm s = some n) : (s,n) ∈ tbl:=by
  unfold nm at h
  obtain ⟨p,h1,h2⟩:=Option.map_eq_some_iff.1 h
  have h3:=List.mem_of_find?_eq_some h1
  have h4:=List.find?_some h1
  have h5 : p.1 = s:=by simpa using h4
  rw [← h5,← h2]
  exact h3
theorem nm_none {s : List UInt8} (h : ∀ p ∈ tbl,p.1 ≠ s) : nm s = none:=by
  unfold nm
  rw [List.find?_eq_none.2 (fun p hp => by simpa using h p hp)]
  rfl
theorem tbl_facts : ∀ p ∈ tbl,p.1.length ≤ 6 ∧ 1 ≤ p.1.length ∧ (∀ c ∈ p.1,c.toNat < 128 ∧ c.toNat ≠ 59) ∧ p.1.head? ≠ some 35 ∧ okRune p.2 ∧ p.2 ≠ 0 ∧ p.2 ≠ 13:=by decide
theorem tbl_apart : tbl.Pairwise (fun p q => p.1 ≠ q.1):=by decide
theorem nm_of_mem {p : List UInt8 × Nat} (h : p ∈ tbl) : nm p.1 = some p.2:=by
  revert p
  decide
def digZ (r : Int) : Int:=if 48 ≤ r ∧ r ≤ 57 then r - 48 else if 97 ≤ r ∧ r ≤ 102 then r - 97 + 10 else if 65 ≤ r ∧ r ≤ 70 then r - 65 + 10 else -1
theorem digZ_bd (r : Int) : -1 ≤ digZ r ∧ digZ r ≤ 15:=by
  unfold digZ
  repeat' split
  all_goals omega
theorem digZ_big (r : Int) (h : 128 ≤ r) : digZ r = -1:=by
  unfold digZ
  repeat' split
  all_goals omega
def isD (b : Nat) (c : UInt8) : Bool:=decide (0 ≤ digZ c.toNat ∧ digZ c.toNat < b)
theorem isD_59 (b : Nat) : isD b 59 = false:=by
  have : digZ ((59 : UInt8).toNat : Int) = -1:=by decide
  unfold isD
  rw [this]
  simp
theorem isD_ascii {b : Nat} {c : UInt8} (h : isD b c = true) : c.toNat < 128:=by
  unfold isD at h
  rcases Nat.lt_or_ge c.toNat 128 with h1 | h1
  · exact h1
  · rw [digZ_big _ (by omega)] at h
    simp at h
theorem isD_no {b : Nat} {c : UInt8} (h : isD b c = false) : digZ c.toNat < 0 ∨ (b : Int) ≤ digZ c.toNat:=by
  unfold isD at h
  have:=of_decide_eq_false h
  omega
theorem dec_lo (c : UInt8) (t : List UInt8) (h : c.toNat < 128) : dec (c :: t) = (c.toNat,1):=by
  simp only [dec,List.getD_cons_zero]
  rw [if_pos h]
theorem dec_hi (c : UInt8) (t : List UInt8) (h : 128 ≤ c.toNat) : 128 ≤ (dec (c :: t)).1:=by
  rcases dec_cases (c :: t) (by simp) with ⟨h1,h2,_⟩ | ⟨h1,_⟩
  · rcases Nat.lt_or_ge (dec (c :: t)).1 128 with h3 | h3
    · exfalso
      obtain ⟨a,u,h4,h5,_⟩:=enc_head _ h1
      rw [h4] at h2
      have h6 : c = a:=by simp at h2; exact h2.1
      have:=h5 h3
      rw [← h6] at this
      omega
    · exact h3
  · rw [h1]; decide
def val (b : Nat) : List UInt8 → Int
  | [] => 0
  | c :: t => digZ c.toNat * (b : Int) ^ t.length + val b t
theorem val_snoc (b : Nat) (l : List UInt8) (c : UInt8) : val b (l ++ [c]) = val b l * b + digZ c.toNat:=by
  induction l with
  | nil => simp [val]
  | cons d t ih =>
    rw [List.cons_append,val,val,ih,List.length_append,List.length_singleton,Int.pow_succ,Int.add_mul,← Int.mul_assoc]
    omega
theorem val_bd (b : Nat) (l : List UInt8) (h : ∀ c ∈ l,isD b c = true) : 0 ≤ val b l ∧ val b l < (b : Int) ^ l.length:=by
  induction l with
  | nil => simp [val]
  | cons d t ih =>
    have ih:=ih (fun c hc => h c (by simp [hc]))
    have hd:=h d (by simp)
    unfold isD at hd
    have hd:=of_decide_eq_true hd
    rw [val,List.length_cons,Int.pow_succ]
    have h1 : digZ d.toNat + 1 ≤ b:=by omega
    have h2 : (digZ d.toNat + 1) * (b : Int) ^ t.length ≤ b * (b : Int) ^ t.length:=Int.mul_le_mul_of_nonneg_right h1 (by omega)
    have h3 : 0 ≤ digZ d.toNat * (b : Int) ^ t.length:=Int.mul_nonneg hd.1 (by omega)
    rw [Int.add_mul,Int.one_mul] at h2
    rw [Int.mul_comm ((b : Int) ^ t.length) b]
    omega
def digs (b m : Nat) (l : List UInt8) : List UInt8:=(l.takeWhile (isD b)).take m
theorem digs_all (b m : Nat) (l : List UInt8) : ∀ c ∈ digs b m l,isD b c = true:=fun c hc => by
  have h1:=List.mem_of_mem_take hc
  have h2 : l.takeWhile (isD b) = l.takeWhile (isD b):=rfl
  exact (List.all_eq_true.1 (List.all_takeWhile (l:=l) (p:=isD b))) c h1
theorem digs_len (b m : Nat) (l : List UInt8) : (digs b m l).length ≤ m ∧ (digs b m l).length ≤ l.length:=by
  unfold digs
  rw [List.length_take]
  have:=(List.takeWhile_sublist (l:=l) (isD b)).length_le
  omega
theorem digs_of (b m : Nat) (l : List UInt8) (k : Nat) (hk : k ≤ l.length) (hm : k ≤ m) (ha : ∀ c ∈ l.take k,isD b c = true) (he : k = m ∨ k = l.length ∨ ∃ c,l[k]? = some c ∧ isD b c = false) : digs b m l = l.take k:=by
  have h1 : l.takeWhile (isD b) = l.take k ++ (l.drop k).takeWhile (isD b):=by
    conv => lhs; rw [← List.take_append_drop k l]
    rw [List.takeWhile_append_of_pos ha]
  unfold digs
  rw [h1]
  have hl : (l.take k).length = k:=by rw [List.length_take]; omega
  rcases he with rfl | rfl | ⟨c,hc,hn⟩
  · rw [List.take_append_of_le_length (by omega),List.take_of_length_le (by omega)]
  · rw [List.drop_length,List.takeWhile_nil,List.append_nil,List.take_of_length_le (by omega)]
  · have h2 : l.drop k = c :: l.drop (k + 1):=by
      obtain ⟨h3,h4⟩:=List.getElem?_eq_some_iff.1 hc
      rw [List.drop_eq_getElem_cons h3,h4]
    rw [h2,List.takeWhile_cons,hn,if_neg (by simp),List.append_nil,List.take_of_length_le (by omega)]
theorem digs_prefix (b m : Nat) (l : List UInt8) : digs b m l = l.take (digs b m l).length:=by
  have h1 : l.takeWhile (isD b) <+: l:=List.takeWhile_prefix _
  have h2 : digs b m l <+: l:=(List.take_prefix _ _).trans h1
  exact (List.prefix_iff_eq_take.1 h2)
def chr (n : Int) : Int:=if n = 0 ∨ n = 13 ∨ (55296 ≤ n ∧ n ≤ 57343) ∨ 1114111 < n then 65533 else n
theorem chr_ok (n : Int) (h : 0 ≤ n) : okRune (chr n) ∧ chr n ≠ 0 ∧ chr n ≠ 13:=by
  unfold chr okRune
  split <;> omega
def num (f b m : Nat) (l : List UInt8) : Option (Int × Nat) :=
  if (digs b m (l.drop f)).length = 0 ∨ l[f + (digs b m (l.drop f)).length]? ≠ some 59 then none
  else some (chr (val b (digs b m (l.drop f))),f + (digs b m (l.drop f)).length + 1)
def near (l : List UInt8) : List UInt8:=(l.drop 1).take 7
def named (l : List UInt8) : Option (Int × Nat) :=
  if Lib.indexByte (near l) 59 < 0 then none
  else (nm ((near l).take (Lib.indexByte (near l) 59).toNat)).map (fun (r : Nat) => ((r : Int),1 + (Lib.indexByte (near l) 59).toNat + 1))
def one (l : List UInt8) : Option (Int × Nat) :=
  if l.head? ≠ some 38 then none
  else if l.take 3 = [38,35,120] ∨ l.take 3 = [38,35,88] then num 3 16 6 l
  else if l.take 2 = [38,35] then num 2 10 7 l
  else named l
def numR (b m : Nat) (ds : List UInt8) : Option Int:=if 1 ≤ ds.length ∧ ds.length ≤ m ∧ ds.all (isD b) = true then some (chr (val b ds)) else none
def ownB (own : List UInt8) : Option Int :=
  if own.take 2 = [35,120] ∨ own.take 2 = [35,88] then numR 16 6 (own.drop 2)
  else if own.take 1 = [35] then numR 10 7 (own.drop 1)
  else (nm own).map Int.ofNat
theorem not_mem_get {l : List UInt8} {c : UInt8} (h : c ∉ l) (k : Nat) : l[k]? ≠ some c:=fun e => h (List.mem_of_getElem? e)
theorem num_own (b m : Nat) (pre ds rest : List UInt8) (h59 : (59 : UInt8) ∉ ds) : num pre.length b m (pre ++ (ds ++ 59 :: rest)) = (numR b m ds).map (fun r => (r,pre.length + ds.length + 1)):=by
  have hd : (pre ++ (ds ++ 59 :: rest)).drop pre.length = ds ++ 59 :: rest:=List.drop_left
  have hg : ∀ k,(pre ++ (ds ++ 59 :: rest))[pre.length + k]? = (ds ++ 59 :: rest)[k]?:=fun k => by rw [List.getElem?_append_right (by omega)]; congr 1; omega
  unfold num
  rw [hd,hg]
  by_cases hall : ds.all (isD b) = true
  · have ha:=List.all_eq_true.1 hall
    by_cases hm : ds.length ≤ m
    · have e : digs b m (ds ++ 59 :: rest) = ds:=by
        have:=digs_of b m (ds ++ 59 :: rest) ds.length (by simp) hm (by rw [List.take_left]; exact ha) (Or.inr (Or.inr ⟨59,by simp,isD_59 b⟩))
        rwa [List.take_left] at this
      rw [e]
      by_cases h0 : ds.length = 0
      · rw [if_pos (Or.inl h0),numR,if_neg (by omega)]; rfl
      · rw [if_neg (by simp [h0]),numR,if_pos ⟨by omega,hm,hall⟩]; rfl
    · have e : digs b m (ds ++ 59 :: rest) = ds.take m:=by
        have:=digs_of b m (ds ++ 59 :: rest) m (by simp; omega) (Nat.le_refl _) (by rw [List.take_append_of_le_length (by omega)]; exact fun c hc => ha c (List.mem_of_mem_take hc)) (Or.inl rfl)
        rwa [List.take_append_of_le_length (by omega)] at this
      have el : (ds.take m).length = m:=by rw [List.length_take]; omega
      rw [e,el,if_pos (Or.inr ?_),numR,if_neg (by omega)]
      · rfl
      · rw [List.getElem?_append_left (by omega)]
        exact not_mem_get h59 m
  · have hnr : numR b m ds = none:=if_neg (fun h => hall h.2.2)
    rw [hnr]
    have hp:=digs_prefix b m (ds ++ 59 :: rest)
    have ha:=digs_all b m (ds ++ 59 :: rest)
    have hl : (digs b m (ds ++ 59 :: rest)).length < ds.length:=by
      rcases Nat.lt_or_ge (digs b m (ds ++ 59 :: rest)).length ds.length with h | h
      · exact h
      · exfalso
        apply hall
        rw [List.all_eq_true]
        intro c hc
        refine ha c ?_
        rw [hp,List.take_append,List.take_of_length_le h]
        simp [hc]
    rw [if_pos (Or.inr ?_)]
    · rfl
    · rw [List.getElem?_append_left hl]
      exact not_mem_get h59 _
theorem num_none (f b m : Nat) (l : List UInt8) (h : (59 : UInt8) ∉ l) : num f b m l = none:=by
  unfold num
  rw [if_pos (Or.inr (not_mem_get h _))]
theorem indexByte_no (l : List UInt8) (c : UInt8) (h : c ∉ l) : Lib.indexByte l c = -1:=by
  induction l with
  | nil => rfl
  | cons d t ih =>
    unfold Lib.indexByte
    have h1 : d ≠ c:=fun e => h (by simp [e])
    rw [if_neg (by simpa using h1),ih (fun e => h (by simp [e]))]
    rfl
theorem indexByte_at (a t : List UInt8) (c : UInt8) (h : c ∉ a) : Lib.indexByte (a ++ c :: t) c = a.length:=by
  induction a with
  | nil => simp [Lib.indexByte]
  | cons d a ih =>
    have ih:=ih (fun e => h (by simp [e]))
    have h1 : d ≠ c:=fun e => h (by simp [e])
    rw [List.cons_append,Lib.indexByte,if_neg (by simpa using h1),ih,if_neg (by simp)]
    simp
theorem named_own (own rest : List UInt8) (h59 : (59 : UInt8) ∉ own) : named (38 :: (own ++ 59 :: rest)) = (nm own).map (fun (r : Nat) => ((r : Int),own.length + 2)):=by
  have hn : near (38 :: (own ++ 59 :: rest)) = (own ++ 59 :: rest).take 7:=rfl
  unfold named
  rw [hn]
  by_cases h : own.length ≤ 6
  · have e : (own ++ 59 :: rest).take 7 = own ++ 59 :: rest.take (6 - own.length):=by
      rw [List.take_append,List.take_of_length_le (by omega)]
      congr 1
      rw [show 7 - own.length = (6 - own.length) + 1 by omega,List.take_succ_cons]
    rw [e,indexByte_at _ _ _ h59,if_neg (by omega)]
    simp only [Int.toNat_natCast,List.take_left]
    congr 1
    funext r
    rw [show 1 + own.length + 1 = own.length + 2 by omega]
  · have e : (own ++ 59 :: rest).take 7 = own.take 7:=List.take_append_of_le_length (by omega)
    rw [e,indexByte_no _ _ (fun hc => h59 (List.mem_of_mem_take hc)),if_pos (by omega)]
    cases hno : nm own with
    | none => rfl
    | some n => exact absurd (tbl_facts _ (nm_mem hno)).1 h
theorem one_own (own rest : List UInt8) (h59 : (59 : UInt8) ∉ own) : one (38 :: (own ++ 59 :: rest)) = (ownB own).map (fun r => (r,own.length + 2)):=by
  unfold one ownB
  rw [if_neg (by simp)]
  match own,h59 with
  | [],h59 =>
    rw [if_neg (by simp),if_neg (by simp),if_neg (by simp),if_neg (by simp),named_own [] rest h59]
    cases nm [] <;> rfl
  | [c],h59 =>
    by_cases hc : c = 35
    · subst hc
      have:=num_own 10 7 [38,35] [] rest (by simp)
      rw [if_neg (by simp),if_pos (by simp),if_neg (by simp),if_pos (by simp)]
      exact this
    · rw [if_neg (by simp [hc]),if_neg (by simp [hc]),if_neg (by simp [hc]),if_neg (by simp [hc]),named_own [c] rest h59]
      cases nm [c] <;> rfl
  | c :: d :: ds,h59 =>
    by_cases hc : c = 35
    · subst hc
      by_cases hd : d = 120 ∨ d = 88
      · have:=num_own 16 6 [38,35,d] ds rest (by simp at h59; exact h59.2)
        rw [if_pos (by simpa using hd),if_pos (by simpa using hd)]
        rw [show 38 :: (35 :: d :: ds ++ 59 :: rest) = [38,35,d] ++ (ds ++ 59 :: rest) by simp]
        rw [show (3 : Nat) = ([38,35,d] : List UInt8).length from rfl,this]
        simp only [List.drop_succ_cons,List.drop_zero,List.length_cons,List.length_nil]
        congr 1
        funext r
        rw [show 0 + 1 + 1 + 1 + ds.length + 1 = ds.length + 1 + 1 + 2 by omega]
      · have hd' : ¬ (d = 120) ∧ ¬ (d = 88):=by
          constructor
          · exact fun e => hd (Or.inl e)
          · exact fun e => hd (Or.inr e)
        have:=num_own 10 7 [38,35] (d :: ds) rest (by simp at h59 ⊢; exact h59)
        rw [if_neg (by simp [hd'.1,hd'.2]),if_pos (by simp),if_neg (by simp [hd'.1,hd'.2]),if_pos (by simp)]
        rw [show 38 :: (35 :: d :: ds ++ 59 :: rest) = [38,35] ++ (d :: ds ++ 59 :: rest) by simp]
        rw [show (2 : Nat) = ([38,35] : List UInt8).length from rfl,this]
        simp only [List.drop_succ_cons,List.drop_zero,List.length_cons,List.length_nil]
        congr 1
        funext r
        rw [show 0 + 1 + 1 + (ds.length + 1) + 1 = ds.length + 1 + (0 + 1 + 1 + 1) by omega]
    · rw [if_neg (by simp [hc]),if_neg (by simp [hc]),if_neg (by simp [hc]),if_neg (by simp [hc]),named_own _ rest h59]
      cases nm (c :: d :: ds) <;> rfl
theorem one_none (t : List UInt8) (h : (59 : UInt8) ∉ t) : one (38 :: t) = none:=by
  have h' : (59 : UInt8) ∉ (38 :: t):=by simp [h]
  unfold one
  rw [if_neg (by simp),num_none _ _ _ _ h',num_none _ _ _ _ h']
  split
  · rfl
  split
  · rfl
  have hn : near (38 :: t) = t.take 7:=rfl
  unfold named
  rw [hn,indexByte_no _ _ (fun hc => h (List.mem_of_mem_take hc)),if_pos (by omega)]
theorem one_not (l : List UInt8) (h : l.head? ≠ some 38) : one l = none:=if_pos h
theorem semi_cases (t : List UInt8) : (59 : UInt8) ∉ t ∨ ∃ own rest,t = own ++ 59 :: rest ∧ (59 : UInt8) ∉ own:=by
  induction t with
  | nil => left; simp
  | cons c t ih =>
    by_cases hc : c = 59
    · right; exact ⟨[],t,by rw [hc]; rfl,by simp⟩
    · rcases ih with h | ⟨own,rest,rfl,h⟩
      · left; simp [Ne.symm hc,h]
      · right; exact ⟨c :: own,rest,rfl,by simp [Ne.symm hc,h]⟩
theorem ownB_ok {own : List UInt8} {r : Int} (h : ownB own = some r) : okRune r ∧ r ≠ 0 ∧ r ≠ 13:=by
  unfold ownB at h
  have hn : ∀ b m ds,numR b m ds = some r → okRune r ∧ r ≠ 0 ∧ r ≠ 13:=by
    intro b m ds h
    unfold numR at h
    split at h
    · rename_i hc
      cases h
      exact chr_ok _ (val_bd b ds (List.all_eq_true.1 hc.2.2)).1
    · cases h
  split at h
  · exact hn _ _ _ h
  split at h
  · exact hn _ _ _ h
  · obtain ⟨n,h1,rfl⟩:=Option.map_eq_some_iff.1 h
    have:=(tbl_facts _ (nm_mem h1)).2.2.2.2
    refine ⟨this.1,?_,?_⟩
    · intro e; exact this.2.1 (by simpa using Int.ofNat_eq_zero.1 e)
    · intro e; exact this.2.2 (Int.ofNat.inj e)
theorem one_some {l : List UInt8} {r : Int} {n : Nat} (h : one l = some (r,n)) : ∃ own rest,l = 38 :: (own ++ 59 :: rest) ∧ n = own.length + 2 ∧ ownB own = some r:=by
  cases l with
  | nil => rw [one_not _ (by simp)] at h; cases h
  | cons c t =>
    by_cases hc : c = 38
    · subst hc
      rcases semi_cases t with h1 | ⟨own,rest,rfl,h1⟩
      · rw [one_none t h1] at h; cases h
      · rw [one_own own rest h1] at h
        obtain ⟨r',h2,h3⟩:=Option.map_eq_some_iff.1 h
        cases h3
        exact ⟨own,rest,rfl,rfl,h2⟩
    · rw [one_not _ (by simpa using hc)] at h; cases h
theorem one_bd {l : List UInt8} {r : Int} {n : Nat} (h : one l = some (r,n)) : 2 ≤ n ∧ n ≤ l.length ∧ okRune r ∧ r ≠ 0 ∧ r ≠ 13:=by
  obtain ⟨own,rest,rfl,rfl,h2⟩:=one_some h
  have:=ownB_ok h2
  exact ⟨by omega,by simp only [List.length_cons,List.length_append]; omega,this⟩
def decode (l : List UInt8) : List UInt8 :=
  match l with
  | [] => []
  | c :: t => match one (c :: t) with
    | some (r,n) => enc r ++ decode (t.drop (n - 1))
    | none => c :: decode t
termination_by l.length
decreasing_by all_goals simp <;> omega
theorem decode_nil : decode [] = []:=by rw [decode]
theorem decode_ref {l : List UInt8} {r : Int} {n : Nat} (h : one l = some (r,n)) : decode l = enc r ++ decode (l.drop n):=by
  obtain ⟨own,rest,rfl,rfl,h2⟩:=one_some h
  rw [decode,h]
  simp
theorem decode_byte {c : UInt8} {t : List UInt8} (h : one (c :: t) = none) : decode (c :: t) = c :: decode t:=by
  rw [decode,h]
theorem decode_plain {c : UInt8} (t : List UInt8) (h : c ≠ 38) : decode (c :: t) = c :: decode t:=decode_byte (one_not _ (by simpa using h))
theorem decode_past (a t : List UInt8) (h : (38 : UInt8) ∉ a) : decode (a ++ t) = a ++ decode t:=by
  induction a with
  | nil => rfl
  | cons c a ih =>
    rw [List.cons_append,decode_plain _ (fun e => h (by simp [e])),ih (fun e => h (by simp [e]))]
    rfl
theorem decode_self (l : List UInt8) (h : (38 : UInt8) ∉ l) : decode l = l:=by
  have:=decode_past l [] h
  rwa [List.append_nil,decode_nil,List.append_nil] at this
theorem enc_len_le (r : Int) : (enc r).length ≤ 4 ∧ 1 ≤ (enc r).length:=by
  have:=Lib.encodeRuneZ_length r
  have e : (enc r).length = (Lib.encodeRuneZ r).length:=by simp [enc,Lib.encodeRune]
  omega
theorem decode_len : ∀ (n : Nat) (l : List UInt8),l.length ≤ n → (decode l).length ≤ 4 * l.length:=by
  intro n
  induction n with
  | zero => intro l hl; have : l = []:=List.eq_nil_of_length_eq_zero (by omega); subst this; rw [decode_nil]; simp
  | succ n ih =>
    intro l hl
    cases l with
    | nil => rw [decode_nil]; simp
    | cons c t =>
      cases h : one (c :: t) with
      | none =>
        have:=ih t (by simp at hl; omega)
        rw [decode_byte h]
        simp; omega
      | some p =>
        have hb:=one_bd (r:=p.1) (n:=p.2) h
        have:=ih ((c :: t).drop p.2) (by rw [List.length_drop]; omega)
        have he:=enc_len_le p.1
        rw [decode_ref (r:=p.1) (n:=p.2) h,List.length_append]
        rw [List.length_drop] at this
        omega
def esc (v : Bool) (c : UInt8) : List UInt8:=if c = 38 then [38,97,109,112,59] else if c = 60 then [38,108,116,59] else if c = 62 then [38,103,116,59] else if c = 34 ∧ v = true then [38,113,117,111,116,59] else [c]
def escape (v : Bool) (l : List UInt8) : List UInt8:=l.flatMap (esc v)
theorem escape_append (v : Bool) (a b : List UInt8) : escape v (a ++ b) = escape v a ++ escape v b:=by simp [escape]
theorem escape_cons (v : Bool) (c : UInt8) (t : List UInt8) : escape v (c :: t) = esc v c ++ escape v t:=by simp [escape]
theorem esc_len (v : Bool) (c : UInt8) : (esc v c).length ≤ 6:=by
  unfold esc
  repeat' split
  all_goals simp
theorem escape_len (v : Bool) (l : List UInt8) : (escape v l).length ≤ 6 * l.length:=by
  induction l with
  | nil => simp [escape]
  | cons c t ih =>
    have:=esc_len v c
    rw [escape_cons,List.length_append,List.length_cons]
    omega
theorem enc_high (r : Int) (h : okRune r) (h1 : 128 ≤ r) : ∀ x ∈ enc r,128 ≤ x.toNat:=by
  obtain ⟨n,rfl⟩ : ∃ n : Nat,r = n:=⟨r.toNat,by omega⟩
  have hn : (128 ≤ n ∧ n ≤ 2047) ∨ ((2048 ≤ n ∧ n < 55296) ∨ (57343 < n ∧ n ≤ 65535)) ∨ (65536 ≤ n ∧ n ≤ 1114111):=by unfold okRune at h; omega
  intro x hx
  rcases hn with ⟨h1,h2⟩ | h1 | ⟨h1,h2⟩
  · rw [enc2 n h1 h2] at hx
    simp only [List.mem_cons,List.not_mem_nil,or_false] at hx
    rcases hx with rfl | rfl <;> (rw [toNat_u8 _ (by omega)]; omega)
  · rw [enc3 n h1] at hx
    simp only [List.mem_cons,List.not_mem_nil,or_false] at hx
    rcases hx with rfl | rfl | rfl <;> (rw [toNat_u8 _ (by omega)]; omega)
  · rw [enc4 n h1 h2] at hx
    simp only [List.mem_cons,List.not_mem_nil,or_false] at hx
    rcases hx with rfl | rfl | rfl | rfl <;> (rw [toNat_u8 _ (by omega)]; omega)
end M2
end Go.Proofs.YteefodibpjgicaaGreat

namespace Go.Proofs.YteefodibpjgicaaGreat
structure Att where
  name : ByteArray
  value : ByteArray
inductive Nd where
  | mk (kind : Int) (name : ByteArray) (attrs : List Att) (text : ByteArray) (kids : List Nd)
theorem Nd.ind {P : List Nd → Prop} (h0 : P []) (h1 : ∀ k n a t ks r,P ks → P r → P (Nd.mk k n a t ks :: r)) : ∀ l,P l
  | [] => h0
  | .mk k n a t ks :: r => h1 k n a t ks r (Nd.ind h0 h1 ks) (Nd.ind h0 h1 r)
termination_by l => SizeOf.sizeOf l
def Nd.kind : Nd → Int | .mk k _ _ _ _ => k
def Nd.name : Nd → ByteArray | .mk _ n _ _ _ => n
def Nd.attrs : Nd → List Att | .mk _ _ a _ _ => a
def Nd.text : Nd → ByteArray | .mk _ _ _ t _ => t
def Nd.kids : Nd → List Nd | .mk _ _ _ _ ks => ks
theorem Nd.eta (x : Nd) : x = .mk x.kind x.name x.attrs x.text x.kids:=by cases x; rfl
namespace M3
def eqB (s t : ByteArray) : Bool:=s.toList == t.toList
theorem eqB_iff {s t : ByteArray} : eqB s t = true ↔ s = t:=by
  unfold eqB
  rw [beq_iff_eq]
  constructor
  · intro h
    rw [ByteArray.toList_eq,ByteArray.toList_eq] at h
    cases s; cases t
    congr 1
    exact Array.ext' h
  · rintro rfl; rfl
theorem eqB_self (s : ByteArray) : eqB s s = true:=eqB_iff.2 rfl
def nilB (s : ByteArray) : Bool:=s.toList.isEmpty
theorem nilB_iff {s : ByteArray} : nilB s = true ↔ s.data.toList = []:=by
  unfold nilB
  rw [ByteArray.toList_eq,List.isEmpty_iff]
def smallB (c : UInt8) : Bool:=decide (97 ≤ c.toNat ∧ c.toNat ≤ 122)
def nameB (c : UInt8) : Bool:=smallB c || decide (c.toNat = 45 ∨ (48 ≤ c.toNat ∧ c.toNat ≤ 57))
def namedB : List UInt8 → Bool
  | [] => false
  | c :: r => smallB c && r.all nameB
def badB (c : UInt8) : Bool:=c.toNat == 9 || c.toNat == 10 || c.toNat == 12 || c.toNat == 32 || c.toNat == 47 || c.toNat == 62 || c.toNat == 61
def capB (c : UInt8) : Bool:=decide (65 ≤ c.toNat ∧ c.toNat ≤ 90)
def attributedB (l : List UInt8) : Bool:=!l.isEmpty && (M1.isB l && !(l.any capB) && !(l.any badB))
def voidB (l : List UInt8) : Bool:=l == [98,114] || l == [104,114] || l == [105,109,103] || l == [105,110,112,117,116] || l == [119,98,114]
def rawB (l : List UInt8) : Bool:=l == [115,99,114,105,112,116] || l == [115,116,121,108,101]
def tailB (l : List UInt8) (p : Nat) : Bool:=if p = 0 then namedB l else (l.drop p).all nameB
def okR (p : Nat) (r : Int) : Prop:=(97 ≤ r ∧ r ≤ 122) ∨ (p ≠ 0 ∧ (r = 45 ∨ (48 ≤ r ∧ r ≤ 57)))
theorem tail_no {l : List UInt8} {p : Nat} (h : p < l.length) (hr : ¬ okR p (l[p].toNat : Int)) : tailB l p = false:=by
  unfold tailB okR at *
  by_cases h0 : p = 0
  · subst h0
    rw [if_pos rfl]
    cases l with
    | nil => simp at h
    | cons c r => simp [namedB,smallB] at hr ⊢; intro h1 h2; omega
  · rw [if_neg h0,List.drop_eq_getElem_cons h,List.all_cons]
    have : nameB l[p] = false:=by simp [nameB,smallB,h0] at hr ⊢; omega
    rw [this]; rfl
theorem tail_yes {l : List UInt8} {p : Nat} (h : p < l.length) (hr : okR p (l[p].toNat : Int)) : tailB l p = tailB l (p + 1):=by
  unfold tailB okR at *
  rw [if_neg (show ¬ p + 1 = 0 by omega)]
  by_cases h0 : p = 0
  · subst h0
    rw [if_pos rfl]
    cases l with
    | nil => simp at h
    | cons c r => simp [namedB,smallB] at hr ⊢; intro _; exact ⟨by omega,by omega⟩
  · rw [if_neg h0,List.drop_eq_getElem_cons h,List.all_cons]
    have : nameB l[p] = true:=by simp [nameB,smallB,h0] at hr ⊢; omega
    rw [this]; rfl
theorem tail_end {l : List UInt8} : tailB l l.length = !l.isEmpty:=by
  unfold tailB
  cases l with
  | nil => rfl
  | cons c r => rw [if_neg (by simp)]; simp
def namesE : List ByteArray → List Att → Int
  | _,[] => 0
  | seen,a :: r => if attributedB a.name.data.toList then (if seen.any (eqB a.name) then 5 else namesE (seen ++ [a.name]) r) else 4
def valuesE : List Att → Int
  | [] => 0
  | a :: r => if M1.isB a.value.data.toList then valuesE r else 2
def elemE (x : Nd) : Int :=
  if nilB x.text then (if namedB x.name.data.toList then (if namesE [] x.attrs = 0 then valuesE x.attrs else namesE [] x.attrs) else 4) else 7
def plainB (x : Nd) : Bool:=nilB x.name && x.attrs.isEmpty && x.kids.isEmpty
def oneE (x : Nd) (p : Bool) : Int :=
  if x.kind = 1 then elemE x
  else if x.kind = 2 then (if plainB x then (if M1.isB x.text.data.toList && !(nilB x.text || p) then 0 else 2) else 7)
  else if x.kind = 3 then (if plainB x then (if M1.isB x.text.data.toList then 0 else 2) else 7)
  else 7
def mayE : Bool → List Nd → Int
  | _,[] => 0
  | p,.mk k n a t ks :: r => if oneE (.mk k n a t ks) p ≠ 0 then oneE (.mk k n a t ks) p else if mayE false ks ≠ 0 then mayE false ks else mayE (k == 2) r
termination_by _ l => SizeOf.sizeOf l
theorem mayE_nil (p : Bool) : mayE p [] = 0:=by rw [mayE]
theorem mayE_cons (p : Bool) (x : Nd) (r : List Nd) : mayE p (x :: r) = if oneE x p ≠ 0 then oneE x p else if mayE false x.kids ≠ 0 then mayE false x.kids else mayE (x.kind == 2) r:=by
  cases x
  rw [mayE]
  rfl
def seqN : Int → List Nd → List (Nd × Int)
  | _,[] => []
  | a,.mk k n at_ t ks :: r => (.mk k n at_ t ks,a) :: (seqN 0 ks ++ seqN k r)
termination_by _ l => SizeOf.sizeOf l
theorem seqN_nil (a : Int) : seqN a [] = []:=by rw [seqN]
theorem seqN_cons (a : Int) (x : Nd) (r : List Nd) : seqN a (x :: r) = (x,a) :: (seqN 0 x.kids ++ seqN x.kind r):=by cases x; rw [seqN]; rfl
def all : List Nd → List Nd
  | [] => []
  | .mk k n at_ t ks :: r => .mk k n at_ t ks :: (all ks ++ all r)
termination_by l => SizeOf.sizeOf l
def weight : List Nd → Nat
  | [] => 0
  | .mk _ _ at_ _ ks :: r => 1 + at_.length + weight ks + weight r
termination_by l => SizeOf.sizeOf l
theorem weight_nil : weight [] = 0:=by rw [weight]
theorem weight_cons (x : Nd) (r : List Nd) : weight (x :: r) = 1 + x.attrs.length + weight x.kids + weight r:=by cases x; rw [weight]; rfl
theorem weight_append (a b : List Nd) : weight (a ++ b) = weight a + weight b:=by
  induction a with
  | nil => rw [List.nil_append,weight_nil]; omega
  | cons x r ih => rw [List.cons_append,weight_cons,weight_cons,ih]; omega
theorem length_le_weight (l : List Nd) : l.length ≤ weight l:=by
  induction l with
  | nil => simp
  | cons x r ih => rw [weight_cons,List.length_cons]; omega
def firstE : List (Nd × Int) → Int
  | [] => 0
  | p :: r => if oneE p.1 (p.2 == 2) ≠ 0 then oneE p.1 (p.2 == 2) else firstE r
theorem firstE_append (a b : List (Nd × Int)) : firstE (a ++ b) = if firstE a ≠ 0 then firstE a else firstE b:=by
  induction a with
  | nil => simp [firstE]
  | cons p r ih =>
    rw [List.cons_append,firstE,firstE,ih]
    split <;> simp_all
theorem may_eq (a : Int) (l : List Nd) : firstE (seqN a l) = mayE (a == 2) l:=by
  induction l using Nd.ind generalizing a with
  | h0 => rw [seqN_nil,mayE_nil]; rfl
  | h1 k n at_ t ks r ih1 ih2 =>
    rw [seqN_cons,mayE_cons,firstE,firstE_append]
    show (if oneE _ (a == 2) ≠ 0 then _ else if firstE (seqN 0 ks) ≠ 0 then firstE (seqN 0 ks) else firstE (seqN k r)) = _
    rw [ih1,ih2]
    rfl
def sameA : List Att → List Att → Bool
  | [],[] => true
  | a :: r,b :: s => eqB a.name b.name && eqB a.value b.value && sameA r s
  | _,_ => false
def sameN : List Nd → List Nd → Bool
  | [],[] => true
  | .mk k n a t ks :: r,y :: s => k == y.kind && eqB n y.name && eqB t y.text && sameA a y.attrs && sameN ks y.kids && sameN r s
  | _,_ => false
termination_by l _ => SizeOf.sizeOf l
theorem sameN_nil : sameN [] [] = true:=by rw [sameN]
theorem sameN_cons (x y : Nd) (r s : List Nd) : sameN (x :: r) (y :: s) = (x.kind == y.kind && eqB x.name y.name && eqB x.text y.text && sameA x.attrs y.attrs && sameN x.kids y.kids && sameN r s):=by
  cases x; rw [sameN]; rfl
theorem sameN_len : ∀ (a b : List Nd),a.length ≠ b.length → sameN a b = false:=by
  intro a
  induction a with
  | nil => intro b h; cases b with | nil => simp at h | cons y s => rw [sameN] <;> simp
  | cons x r ih =>
    intro b h
    cases b with
    | nil => rw [sameN] <;> simp
    | cons y s => rw [sameN_cons,ih s (by simpa using h),Bool.and_false]
theorem sameA_len : ∀ (a b : List Att),a.length ≠ b.length → sameA a b = false:=by
  intro a
  induction a with
  | nil => intro b h; cases b with | nil => simp at h | cons y s => rfl
  | cons x r ih =>
    intro b h
    cases b with
    | nil => rfl
    | cons y s => rw [sameA,ih s (by simpa using h),Bool.and_false]
theorem sameA_self (a : List Att) : sameA a a = true:=by
  induction a with
  | nil => rfl
  | cons x r ih => rw [sameA,ih,eqB_self,eqB_self]; rfl
theorem sameN_self (a : List Nd) : sameN a a = true:=by
  induction a using Nd.ind with
  | h0 => exact sameN_nil
  | h1 k n at_ t ks r ih1 ih2 =>
    rw [sameN_cons,eqB_self,eqB_self,sameA_self,ih2]
    show (k == k && true && true && true && sameN ks ks && true) = true
    rw [ih1]; simp
def withText (x : Nd) (t : ByteArray) : Nd:=.mk x.kind x.name x.attrs t x.kids
def cat (s t : ByteArray) : ByteArray:=⟨(s.data.toList ++ t.data.toList).toArray⟩
def push (out : List Nd) (x : Nd) : List Nd :=
  if x.kind = 2 ∧ nilB x.text = true then out
  else match out.getLast? with
    | some y => if x.kind = 2 ∧ y.kind = 2 then out.dropLast ++ [withText y (cat y.text x.text)] else out ++ [x]
    | none => out ++ [x]
def merge (l : List Nd) : List Nd:=l.foldl push []
def valueOf (name : ByteArray) : List Att → Option ByteArray
  | [] => none
  | a :: r => if eqB a.name name then some a.value else valueOf name r
theorem valueOf_drop (name : ByteArray) (l : List Att) (i : Nat) (h : i < l.length) : valueOf name (l.drop i) = if eqB l[i].name name then some l[i].value else valueOf name (l.drop (i + 1)):=by
  rw [List.drop_eq_getElem_cons h,valueOf]
def few (s : ByteArray) : ByteArray:=if 30 < s.size then s.extract 0 30 else s
def fewA (a : Att) : Att:=⟨few a.name,few a.value⟩
def cut : List Nd → Nat → List Nd × Nat
  | [],m => ([],m)
  | _ :: _,0 => ([],0)
  | .mk k n a t ks :: r,m + 1 => (.mk k (few n) ((a.take 5).map fewA) (few t) (cut ks m).1 :: (cut r (cut ks m).2).1,(cut r (cut ks m).2).2)
termination_by l _ => SizeOf.sizeOf l
theorem cut_nil (m : Nat) : cut [] m = ([],m):=by rw [cut]
theorem cut_zero (l : List Nd) : cut l 0 = ([],0):=by cases l <;> rw [cut]
theorem cut_cons (x : Nd) (r : List Nd) (m : Nat) : cut (x :: r) (m + 1) = (.mk x.kind (few x.name) ((x.attrs.take 5).map fewA) (few x.text) (cut x.kids m).1 :: (cut r (cut x.kids m).2).1,(cut r (cut x.kids m).2).2):=by
  cases x; rw [cut]; rfl
theorem cut_le (l : List Nd) (m : Nat) : (cut l m).2 ≤ m:=by
  induction l using Nd.ind generalizing m with
  | h0 => rw [cut_nil]; exact Nat.le_refl _
  | h1 k n a t ks r ih1 ih2 =>
    cases m with
    | zero => rw [cut_zero]; exact Nat.le_refl _
    | succ m =>
      rw [cut_cons]
      exact Nat.le_trans (ih2 _) (Nat.le_succ_of_le (ih1 m))
end M3
end Go.Proofs.YteefodibpjgicaaGreat
