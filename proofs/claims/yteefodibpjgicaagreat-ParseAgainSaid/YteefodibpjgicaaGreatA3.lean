/- Texts joined: Math5, Math5b, Math5c, Math5d, Math5e. -/
import Derived.Lib.CutLaws
import Derived.Test.YteefodibpjgicaaGreatA2
namespace Go.Proofs.YteefodibpjgicaaGreat
structure Tok where
  kind : Int
  name : ByteArray
  attrs : List Att
  text : ByteArray
namespace M5
def bs (l : List UInt8) : ByteArray:=⟨l.toArray⟩
theorem bs_data (l : List UInt8) : (bs l).data.toList = l:=by simp [bs]
theorem bs_of (s : ByteArray) : bs s.data.toList = s:=by cases s; simp [bs]
def zero : Tok:=⟨0,⟨#[]⟩,[],⟨#[]⟩⟩
def blankB (c : UInt8) : Bool:=c == 9 || c == 10 || c == 12 || c == 32
def letterB (c : UInt8) : Bool:=decide (65 ≤ c.toNat ∧ c.toNat ≤ 90) || decide (97 ≤ c.toNat ∧ c.toNat ≤ 122)
def nameB (c : UInt8) : Bool:=letterB c || decide (48 ≤ c.toNat ∧ c.toNat ≤ 57) || c == 45
def stopB (c : UInt8) : Bool:=blankB c || c == 47 || c == 62 || c == 61
def startsB : List UInt8 → Bool
  | c :: d :: _ => c == 60 && (letterB d || d == 33 || d == 63 || d == 47)
  | _ => false
def findL (w : List UInt8) : List UInt8 → Nat
  | [] => 0
  | c :: r => if w.isPrefixOf (c :: r) then 0 else findL w r + 1
theorem findL_le (w l : List UInt8) : findL w l ≤ l.length:=by
  induction l with
  | nil => exact Nat.le_refl _
  | cons c r ih => rw [findL]; split <;> simp; omega
def spanN (p : UInt8 → Bool) (l : List UInt8) : Nat:=(l.takeWhile p).length
theorem spanN_le (p : UInt8 → Bool) (l : List UInt8) : spanN p l ≤ l.length:=(List.takeWhile_prefix p).length_le
theorem span_take (p : UInt8 → Bool) (l : List UInt8) : l.take (spanN p l) = l.takeWhile p:=by
  unfold spanN
  induction l with
  | nil => rfl
  | cons c r ih =>
    rw [List.takeWhile_cons]
    split
    · simp [ih]
    · simp
theorem span_drop (p : UInt8 → Bool) (l : List UInt8) : l.drop (spanN p l) = l.dropWhile p:=by
  unfold spanN
  induction l with
  | nil => rfl
  | cons c r ih =>
    rw [List.takeWhile_cons,List.dropWhile_cons]
    split
    · simp [ih]
    · simp
def valueAt (nm : ByteArray) (r : List UInt8) : Att × List UInt8 × Bool :=
  match r.dropWhile blankB with
  | [] => (⟨nm,bs (M2.decode [])⟩,[],true)
  | q :: t =>
    if q = 34 ∨ q = 39 then
      (if findL [q] t < t.length then (⟨nm,bs (M2.decode (t.take (findL [q] t)))⟩,t.drop (findL [q] t + 1),true) else (⟨nm,⟨#[]⟩⟩,[],false))
    else (⟨nm,bs (M2.decode ((q :: t).takeWhile fun c => !blankB c && c != 62))⟩,(q :: t).dropWhile (fun c => !blankB c && c != 62),true)
def attrAt (l : List UInt8) : Att × List UInt8 × Bool :=
  match (l.dropWhile fun c => !stopB c).dropWhile blankB with
  | 61 :: r => valueAt (bs (M1.fold (l.takeWhile fun c => !stopB c))) r
  | r => (⟨bs (M1.fold (l.takeWhile fun c => !stopB c)),⟨#[]⟩⟩,r,true)
def addT (acc : List Att) (a : Att) : List Att:=if acc.any (fun b => M3.eqB b.name a.name) then acc else acc ++ [a]
def attsF : Nat → List UInt8 → List Att → Option (List Att × List UInt8)
  | _,[],_ => none
  | 0,_ :: _,_ => none
  | n + 1,c :: r,acc =>
    if c = 62 then some (acc,r)
    else if stopB c then attsF n r acc
    else if (attrAt (c :: r)).2.2 then attsF n (attrAt (c :: r)).2.1 (addT acc (attrAt (c :: r)).1) else none
def beginR (l : List UInt8) : Tok × List UInt8 :=
  match attsF l.length ((l.drop 1).dropWhile nameB) [] with
  | some (as_,r) => (⟨1,bs (M1.fold ((l.drop 1).takeWhile nameB)),as_,⟨#[]⟩⟩,r)
  | none => (zero,[])
def uptoR (w l : List UInt8) : List UInt8 × List UInt8 :=
  if findL w l < l.length then (l.take (findL w l),l.drop (findL w l + w.length)) else (l,[])
def tagR (l : List UInt8) : Tok × List UInt8 :=
  if startsB l then
    (match l with
    | _ :: d :: r =>
      if letterB d then beginR l
      else if [60,33,45,45].isPrefixOf l then (⟨4,⟨#[]⟩,[],bs (uptoR [45,45,62] (l.drop 4)).1⟩,(uptoR [45,45,62] (l.drop 4)).2)
      else if [60,47,62].isPrefixOf l then (zero,l.drop 3)
      else if d = 47 ∧ (r.head?.map letterB) = some true then
        (if findL [62] r < r.length then (⟨2,bs (M1.fold (r.takeWhile nameB)),[],⟨#[]⟩⟩,r.drop (findL [62] r + 1)) else (zero,[]))
      else (⟨4,⟨#[]⟩,[],bs (uptoR [62] r).1⟩,(uptoR [62] r).2)
    | _ => (zero,l))
  else (zero,l)
def endsL (w : List UInt8) : List UInt8 → Option Nat
  | [] => none
  | c :: r =>
    if M1.fold ((c :: r).take w.length) == w && (match (c :: r).drop w.length with | d :: _ => blankB d || d == 47 || d == 62 | [] => false) then some 0
    else (endsL w r).map (· + 1)
def charsT (p : List UInt8) : List Tok:=if p.isEmpty then [] else [⟨3,⟨#[]⟩,[],bs (M2.decode p)⟩]
def asIs (p : List UInt8) : List Tok:=if p.isEmpty then [] else [⟨3,⟨#[]⟩,[],bs p⟩]
def endN (nm : List UInt8) (l : List UInt8) : Nat:=(endsL ([60,47] ++ nm) l).getD l.length
def toksF : Nat → List UInt8 → List UInt8 → List Tok
  | _,p,[] => charsT p
  | 0,p,_ :: _ => charsT p
  | n + 1,p,c :: r =>
    if startsB (c :: r) then
      charsT p ++ ((if (tagR (c :: r)).1.kind ≠ 0 then [(tagR (c :: r)).1] else []) ++
        (if (tagR (c :: r)).1.kind = 1 ∧ M3.rawB (tagR (c :: r)).1.name.data.toList = true then
          asIs ((tagR (c :: r)).2.take (endN (tagR (c :: r)).1.name.data.toList (tagR (c :: r)).2)) ++ toksF n [] ((tagR (c :: r)).2.drop (endN (tagR (c :: r)).1.name.data.toList (tagR (c :: r)).2))
        else toksF n [] (tagR (c :: r)).2))
    else toksF n (p ++ [c]) r
def tokens (l : List UInt8) : List Tok:=toksF l.length [] l
def Suf (r l : List UInt8) : Prop:=∃ k,k ≤ l.length ∧ r = l.drop k
theorem Suf.refl (l : List UInt8) : Suf l l:=⟨0,Nat.zero_le _,rfl⟩
theorem Suf.nil (l : List UInt8) : Suf [] l:=⟨l.length,Nat.le_refl _,by simp⟩
theorem Suf.trans {a b c : List UInt8} (h : Suf a b) (k : Suf b c) : Suf a c:=by
  obtain ⟨i,hi,rfl⟩:=h
  obtain ⟨j,hj,rfl⟩:=k
  refine ⟨j + i,?_,by rw [List.drop_drop]⟩
  rw [List.length_drop] at hi
  omega
theorem Suf.drop (l : List UInt8) (k : Nat) : Suf (l.drop k) l:=by
  by_cases h : k ≤ l.length
  · exact ⟨k,h,rfl⟩
  · exact ⟨l.length,Nat.le_refl _,by rw [List.drop_of_length_le (by omega),List.drop_length]⟩
theorem Suf.cons (c : UInt8) (r : List UInt8) : Suf r (c :: r):=⟨1,by simp,rfl⟩
theorem Suf.dropWhile (p : UInt8 → Bool) (l : List UInt8) : Suf (l.dropWhile p) l:=by
  rw [← span_drop]
  exact Suf.drop _ _
theorem Suf.le {r l : List UInt8} (h : Suf r l) : r.length ≤ l.length:=by
  obtain ⟨k,hk,rfl⟩:=h
  rw [List.length_drop]
  omega
theorem Suf.at_ {r l : List UInt8} (h : Suf r l) : l.drop (l.length - r.length) = r:=by
  obtain ⟨k,hk,rfl⟩:=h
  rw [List.length_drop]
  congr 1
  omega
theorem value_suf (nm : ByteArray) (r : List UInt8) : Suf (valueAt nm r).2.1 r:=by
  unfold valueAt
  have h0:=Suf.dropWhile blankB r
  cases hd : r.dropWhile blankB with
  | nil => exact Suf.nil r
  | cons q t =>
    rw [hd] at h0
    dsimp only
    split
    · split
      · exact ((Suf.drop t _).trans (Suf.cons q t)).trans h0
      · exact Suf.nil r
    · exact (Suf.dropWhile (fun c => !blankB c && c != 62) (q :: t)).trans h0
theorem attr_suf (l : List UInt8) : Suf (attrAt l).2.1 l:=by
  have h0:=(Suf.dropWhile blankB (l.dropWhile fun c => !stopB c)).trans (Suf.dropWhile _ l)
  unfold attrAt
  generalize (l.dropWhile fun c => !stopB c).dropWhile blankB = r at *
  split
  · exact ((value_suf _ _).trans (Suf.cons _ _)).trans h0
  · exact h0
theorem attr_lt (c : UInt8) (r : List UInt8) (h : stopB c = false) : (attrAt (c :: r)).2.1.length < (c :: r).length:=by
  have h1 : ((c :: r).dropWhile fun c => !stopB c) = r.dropWhile fun c => !stopB c:=by rw [List.dropWhile_cons,h]; rfl
  have h0:=(Suf.dropWhile blankB (r.dropWhile fun c => !stopB c)).trans (Suf.dropWhile _ r)
  unfold attrAt
  rw [h1]
  generalize (r.dropWhile fun c => !stopB c).dropWhile blankB = t at *
  have h2:=h0.le
  split
  · exact Nat.lt_of_le_of_lt (value_suf _ _).le (by simp only [List.length_cons] at *; omega)
  · show t.length < _
    simp only [List.length_cons]
    omega
theorem atts_suf (n : Nat) : ∀ (l : List UInt8) (acc : List Att) (as_ : List Att) (r : List UInt8),attsF n l acc = some (as_,r) → Suf r l:=by
  induction n with
  | zero => intro l acc as_ r h; cases l <;> simp [attsF] at h
  | succ n ih =>
    intro l acc as_ r h
    cases l with
    | nil => simp [attsF] at h
    | cons c t =>
      rw [attsF] at h
      split at h
      · cases h; exact Suf.cons _ _
      · split at h
        · exact (ih _ _ _ _ h).trans (Suf.cons _ _)
        · split at h
          · exact (ih _ _ _ _ h).trans (attr_suf _)
          · cases h
theorem atts_fuel (n : Nat) : ∀ (m : Nat) (l : List UInt8) (acc : List Att),l.length ≤ n → l.length ≤ m → attsF n l acc = attsF m l acc:=by
  induction n with
  | zero => intro m l acc h1 h2; cases l with
    | nil => cases m <;> rfl
    | cons c r => simp at h1
  | succ n ih =>
    intro m l acc h1 h2
    cases l with
    | nil => cases m <;> rfl
    | cons c r =>
      cases m with
      | zero => simp at h2
      | succ m =>
        rw [attsF,attsF]
        simp only [List.length_cons] at h1 h2
        by_cases h62 : c = 62
        · rw [if_pos h62,if_pos h62]
        rw [if_neg h62,if_neg h62]
        cases hs : stopB c
        · have:=attr_lt c r hs
          simp only [List.length_cons] at this
          simp only [Bool.false_eq_true,if_false]
          rw [ih m _ _ (by omega) (by omega)]
        · simp only [if_true]
          rw [ih m _ _ (by omega) (by omega)]
theorem begin_suf (l : List UInt8) : Suf (beginR l).2 l:=by
  unfold beginR
  cases h : attsF l.length ((l.drop 1).dropWhile nameB) [] with
  | none => exact Suf.nil l
  | some p => exact ((atts_suf _ _ _ _ _ h).trans (Suf.dropWhile _ _)).trans (Suf.drop _ _)
theorem upto_suf (w l : List UInt8) : Suf (uptoR w l).2 l:=by
  unfold uptoR
  split
  · exact Suf.drop _ _
  · exact Suf.nil l
theorem tag_suf (l : List UInt8) : Suf (tagR l).2 l:=by
  unfold tagR
  split
  · split
    · rename_i c d r _
      have h0 : Suf r (c :: d :: r):=(Suf.cons d r).trans (Suf.cons c _)
      split
      · exact begin_suf _
      · split
        · exact (upto_suf _ _).trans (Suf.drop _ _)
        · split
          · exact Suf.drop _ _
          · split
            · split
              · exact (Suf.drop _ _).trans h0
              · exact Suf.nil _
            · exact (upto_suf _ _).trans h0
    · exact Suf.refl _
  · exact Suf.refl _
end M5
end Go.Proofs.YteefodibpjgicaaGreat

namespace Go.Proofs.YteefodibpjgicaaGreat.M5
def attsR (l : List UInt8) (acc : List Att) : Option (List Att × List UInt8):=attsF l.length l acc
theorem attsR_nil (acc : List Att) : attsR [] acc = none:=rfl
theorem attsR_cons (c : UInt8) (r : List UInt8) (acc : List Att) : attsR (c :: r) acc =
    if c = 62 then some (acc,r) else if stopB c then attsR r acc
    else if (attrAt (c :: r)).2.2 then attsR (attrAt (c :: r)).2.1 (addT acc (attrAt (c :: r)).1) else none:=by
  show attsF (r.length + 1) (c :: r) acc = _
  rw [attsF]
  by_cases hc : c = 62
  · rw [if_pos hc,if_pos hc]
  · rw [if_neg hc,if_neg hc]
    cases hst : stopB c
    · rw [if_neg (Bool.false_ne_true),if_neg (Bool.false_ne_true)]
      have hlt:=attr_lt c r hst
      rw [List.length_cons] at hlt
      rw [attsR,atts_fuel r.length (attrAt (c :: r)).2.1.length (attrAt (c :: r)).2.1 _ (by omega) (Nat.le_refl _)]
    · rfl
theorem attsR_suf (l : List UInt8) (acc as_ : List Att) (r : List UInt8) (h : attsR l acc = some (as_,r)) : Suf r l:=atts_suf l.length l acc as_ r h
theorem begin_eq (l : List UInt8) : beginR l = match attsR ((l.drop 1).dropWhile nameB) [] with
  | some (as_,r) => (⟨1,bs (M1.fold ((l.drop 1).takeWhile nameB)),as_,⟨#[]⟩⟩,r)
  | none => (zero,[]):=by
  have hs:=(Suf.dropWhile nameB (l.drop 1)).le
  have hd : (l.drop 1).length ≤ l.length:=by rw [List.length_drop]; omega
  rw [beginR,attsR,atts_fuel l.length ((l.drop 1).dropWhile nameB).length _ [] (by omega) (Nat.le_refl _)]
  try (cases attsF ((l.drop 1).dropWhile nameB).length ((l.drop 1).dropWhile nameB) [] <;> rfl)
theorem tag_lt (l : List UInt8) (h : startsB l = true) : (tagR l).2.length < l.length:=by
  match l with
  | [] => cases h
  | [c] => cases h
  | c :: d :: r =>
    have hlen : (c :: d :: r).length = r.length + 2:=rfl
    rw [tagR,if_pos h]
    show (if letterB d then _ else _ : Tok × List UInt8).2.length < _
    split
    · rw [begin_eq]
      cases ha : attsR (((c :: d :: r).drop 1).dropWhile nameB) [] with
      | none => show 0 < _; omega
      | some p =>
        have h1:=(attsR_suf _ _ p.1 p.2 ha).le
        have h2:=(Suf.dropWhile nameB ((c :: d :: r).drop 1)).le
        have h3 : ((c :: d :: r).drop 1).length = r.length + 1:=rfl
        show p.2.length < _
        omega
    · split
      · have h1:=(upto_suf [45,45,62] ((c :: d :: r).drop 4)).le
        rw [List.length_drop] at h1
        show (uptoR [45,45,62] ((c :: d :: r).drop 4)).2.length < _
        omega
      · split
        · show ((c :: d :: r).drop 3).length < _
          rw [List.length_drop]
          omega
        · split
          · split
            · show (r.drop _).length < _
              rw [List.length_drop]
              omega
            · show 0 < _
              omega
          · have h1:=(upto_suf [62] r).le
            show (uptoR [62] r).2.length < _
            omega
theorem toks_fuel (n : Nat) : ∀ (m : Nat) (p l : List UInt8),l.length ≤ n → l.length ≤ m → toksF n p l = toksF m p l:=by
  induction n with
  | zero => intro m p l h1 h2; cases l with
    | nil => cases m <;> rfl
    | cons c r => simp at h1
  | succ n ih =>
    intro m p l h1 h2
    cases l with
    | nil => cases m <;> rfl
    | cons c r =>
      cases m with
      | zero => simp at h2
      | succ m =>
        rw [toksF,toksF]
        simp only [List.length_cons] at h1 h2
        cases hs : startsB (c :: r)
        · rw [if_neg Bool.false_ne_true,if_neg Bool.false_ne_true,ih m _ _ (by omega) (by omega)]
        · have hlt:=tag_lt (c :: r) hs
          rw [List.length_cons] at hlt
          rw [if_pos rfl,if_pos rfl,ih m _ (tagR (c :: r)).2 (by omega) (by omega)]
          rw [ih m _ ((tagR (c :: r)).2.drop _) (by rw [List.length_drop]; omega) (by rw [List.length_drop]; omega)]
def toksR (p l : List UInt8) : List Tok:=toksF l.length p l
theorem tokens_eq (l : List UInt8) : tokens l = toksR [] l:=rfl
theorem toksR_nil (p : List UInt8) : toksR p [] = charsT p:=by rw [toksR,toksF]
def rawT (t : Tok) (l : List UInt8) : List Tok × List UInt8 :=
  if t.kind = 1 ∧ M3.rawB t.name.data.toList = true then (asIs (l.take (endN t.name.data.toList l)),l.drop (endN t.name.data.toList l)) else ([],l)
theorem toksR_text (p : List UInt8) (c : UInt8) (r : List UInt8) (h : startsB (c :: r) = false) : toksR p (c :: r) = toksR (p ++ [c]) r:=by
  show toksF (r.length + 1) p (c :: r) = _
  rw [toksF,h,if_neg Bool.false_ne_true]
  rfl
theorem toksR_tag (p : List UInt8) (l : List UInt8) (h : startsB l = true) :
    toksR p l = charsT p ++ ((if (tagR l).1.kind ≠ 0 then [(tagR l).1] else []) ++ ((rawT (tagR l).1 (tagR l).2).1 ++ toksR [] (rawT (tagR l).1 (tagR l).2).2)):=by
  cases l with
  | nil => cases h
  | cons c r =>
    have hlt:=tag_lt (c :: r) h
    rw [List.length_cons] at hlt
    show toksF (r.length + 1) p (c :: r) = _
    rw [toksF,h,if_pos rfl]
    congr 2
    by_cases hr : (tagR (c :: r)).1.kind = 1 ∧ M3.rawB (tagR (c :: r)).1.name.data.toList = true
    · rw [if_pos hr,rawT,if_pos hr]
      congr 1
      exact toks_fuel _ _ _ _ (by rw [List.length_drop]; omega) (Nat.le_refl _)
    · rw [if_neg hr,rawT,if_neg hr]
      exact toks_fuel _ _ _ _ (by omega) (Nat.le_refl _)
end Go.Proofs.YteefodibpjgicaaGreat.M5

namespace Go.Proofs.YteefodibpjgicaaGreat.M5
theorem findL_span (q : UInt8) (t : List UInt8) : findL [q] t = spanN (· != q) t:=by
  induction t with
  | nil => rfl
  | cons c r ih =>
    rw [findL]
    unfold spanN at *
    rw [List.takeWhile_cons]
    by_cases h : q = c
    · subst h
      simp [List.isPrefixOf]
    · have h1 : [q].isPrefixOf (c :: r) = false:=by
        show (q == c && _) = false
        rw [beq_eq_false_iff_ne.2 h]
        rfl
      have h2 : (c != q) = true:=bne_iff_ne.2 (fun e => h e.symm)
      rw [h1,h2,if_pos rfl,ih]
      rfl
def quoted (q : UInt8) (t : List UInt8) : List UInt8 × List UInt8:=(t.takeWhile (· != q),(t.dropWhile (· != q)).drop 1)
def bareB (c : UInt8) : Bool:=!blankB c && c != 62
def valC : List UInt8 → List UInt8 × List UInt8
  | [] => ([],[])
  | q :: t => if q = 34 ∨ q = 39 then quoted q t else ((q :: t).takeWhile bareB,(q :: t).dropWhile bareB)
def keyB (c : UInt8) : Bool:=!stopB c
def attC (l : List UInt8) : Att × List UInt8 :=
  match (l.dropWhile keyB).dropWhile blankB with
  | 61 :: r => (⟨bs (M1.fold (l.takeWhile keyB)),bs (M2.decode (valC (r.dropWhile blankB)).1)⟩,(valC (r.dropWhile blankB)).2)
  | r => (⟨bs (M1.fold (l.takeWhile keyB)),⟨#[]⟩⟩,r)
theorem val_eq (nm : ByteArray) (r : List UInt8) :
    ((valueAt nm r).2.2 = true → (valueAt nm r).1 = ⟨nm,bs (M2.decode (valC (r.dropWhile blankB)).1)⟩ ∧ (valueAt nm r).2.1 = (valC (r.dropWhile blankB)).2) ∧
    ((valueAt nm r).2.2 = false → (valC (r.dropWhile blankB)).2 = []):=by
  unfold valueAt
  cases r.dropWhile blankB with
  | nil => exact ⟨fun _ => ⟨rfl,rfl⟩,(fun h => nomatch h)⟩
  | cons q t =>
    dsimp only
    rw [valC]
    by_cases hq : q = 34 ∨ q = 39
    · rw [if_pos hq,if_pos hq]
      have hd : t.drop (findL [q] t) = t.dropWhile (· != q):=by rw [findL_span,span_drop]
      by_cases hf : findL [q] t < t.length
      · rw [if_pos hf]
        refine ⟨fun _ => ⟨?_,?_⟩,(fun h => nomatch h)⟩
        · show (⟨nm,bs (M2.decode (t.take (findL [q] t)))⟩ : Att) = _
          rw [findL_span,span_take]
          rfl
        · show t.drop (findL [q] t + 1) = (t.dropWhile (· != q)).drop 1
          rw [← hd,List.drop_drop]
      · rw [if_neg hf]
        refine ⟨(fun h => nomatch h),fun _ => ?_⟩
        show (t.dropWhile (· != q)).drop 1 = []
        rw [← hd,List.drop_of_length_le (by omega : t.length ≤ findL [q] t)]
        rfl
    · rw [if_neg hq,if_neg hq]
      exact ⟨fun _ => ⟨rfl,rfl⟩,(fun h => nomatch h)⟩
theorem attrAt_61 (l r : List UInt8) (h : (l.dropWhile keyB).dropWhile blankB = 61 :: r) : attrAt l = valueAt (bs (M1.fold (l.takeWhile keyB))) r:=by
  have e : (fun c => !stopB c) = keyB:=rfl
  unfold attrAt
  rw [e,h]
  rfl
theorem attC_61 (l r : List UInt8) (h : (l.dropWhile keyB).dropWhile blankB = 61 :: r) : attC l = (⟨bs (M1.fold (l.takeWhile keyB)),bs (M2.decode (valC (r.dropWhile blankB)).1)⟩,(valC (r.dropWhile blankB)).2):=by
  unfold attC
  rw [h]
  rfl
theorem attrAt_ne (l : List UInt8) (h : ∀ r,(l.dropWhile keyB).dropWhile blankB ≠ 61 :: r) : attrAt l = (⟨bs (M1.fold (l.takeWhile keyB)),⟨#[]⟩⟩,(l.dropWhile keyB).dropWhile blankB,true):=by
  have e : (fun c => !stopB c) = keyB:=rfl
  unfold attrAt
  rw [e]
  split
  · rename_i h'
    exact absurd h' (h _)
  · rfl
theorem attC_ne (l : List UInt8) (h : ∀ r,(l.dropWhile keyB).dropWhile blankB ≠ 61 :: r) : attC l = (⟨bs (M1.fold (l.takeWhile keyB)),⟨#[]⟩⟩,(l.dropWhile keyB).dropWhile blankB):=by
  unfold attC
  split
  · rename_i h'
    exact absurd h' (h _)
  · rfl
theorem att_eq (l : List UInt8) :
    ((attrAt l).2.2 = true → (attrAt l).1 = (attC l).1 ∧ (attrAt l).2.1 = (attC l).2) ∧ ((attrAt l).2.2 = false → (attC l).2 = []):=by
  by_cases h : ∃ r,(l.dropWhile keyB).dropWhile blankB = 61 :: r
  · obtain ⟨r,h⟩:=h
    rw [attrAt_61 l r h,attC_61 l r h]
    exact val_eq _ r
  · have h' : ∀ r,(l.dropWhile keyB).dropWhile blankB ≠ 61 :: r:=fun r e => h ⟨r,e⟩
    rw [attrAt_ne l h',attC_ne l h']
    exact ⟨fun _ => ⟨rfl,rfl⟩,(fun h => nomatch h)⟩
def overB (c : UInt8) : Bool:=blankB c || c == 47 || c == 61
theorem atts_over (l : List UInt8) (acc : List Att) : attsR l acc = attsR (l.dropWhile overB) acc:=by
  induction l with
  | nil => rfl
  | cons c r ih =>
    rw [List.dropWhile_cons]
    cases h : overB c
    · rfl
    · rw [if_pos rfl,attsR_cons]
      have h62 : c ≠ 62:=by
        intro e
        subst e
        exact absurd h (by decide)
      have hs : stopB c = true:=by
        unfold overB at h
        unfold stopB
        revert h
        cases blankB c <;> cases (c == 47) <;> cases (c == 61) <;> cases (c == 62) <;> simp
      rw [if_neg h62,if_pos hs,ih]
theorem atts_one (c : UInt8) (r : List UInt8) (acc : List Att) (ho : overB c = false) (h62 : c ≠ 62) : attsR (c :: r) acc = attsR (attC (c :: r)).2 (addT acc (attC (c :: r)).1):=by
  have hs : stopB c = false:=by
    unfold overB at ho
    unfold stopB
    have : (c == 62) = false:=beq_eq_false_iff_ne.2 h62
    rw [this]
    revert ho
    cases blankB c <;> cases (c == 47) <;> cases (c == 61) <;> simp
  rw [attsR_cons,if_neg h62,hs,if_neg Bool.false_ne_true]
  obtain ⟨h1,h2⟩:=att_eq (c :: r)
  cases ho : (attrAt (c :: r)).2.2
  · rw [if_neg Bool.false_ne_true,h2 ho,attsR_nil]
  · rw [if_pos rfl,(h1 ho).1,(h1 ho).2]
theorem over_head (l : List UInt8) (c : UInt8) (r : List UInt8) (h : l.dropWhile overB = c :: r) : overB c = false:=by
  induction l with
  | nil => cases h
  | cons d t ih =>
    rw [List.dropWhile_cons] at h
    cases hd : overB d
    · rw [hd,if_neg Bool.false_ne_true] at h
      cases h
      exact hd
    · rw [hd,if_pos rfl] at h
      exact ih h
theorem valC_suf (l : List UInt8) : Suf (valC l).2 l:=by
  cases l with
  | nil => exact Suf.refl _
  | cons q t =>
    rw [valC]
    split
    · exact ((Suf.drop _ 1).trans (Suf.dropWhile _ t)).trans (Suf.cons q t)
    · exact Suf.dropWhile _ _
theorem valC_fst_le (l : List UInt8) : (valC l).1.length ≤ l.length:=by
  cases l with
  | nil => exact Nat.le_refl _
  | cons q t =>
    rw [valC]
    split
    · have:=(List.takeWhile_prefix (l:=t) (· != q)).length_le
      show (t.takeWhile (· != q)).length ≤ t.length + 1
      omega
    · exact (List.takeWhile_prefix _).length_le
theorem attC_name_le (l : List UInt8) : (attC l).1.name.size ≤ l.length:=by
  have e : (attC l).1.name = bs (M1.fold (l.takeWhile keyB)):=by
    unfold attC
    split <;> rfl
  rw [e]
  show (M1.fold (l.takeWhile keyB)).toArray.size ≤ _
  rw [List.size_toArray,M1.fold,List.length_map]
  exact (List.takeWhile_prefix _).length_le
theorem attC_lt (c : UInt8) (r : List UInt8) (ho : overB c = false) (h62 : c ≠ 62) : (attC (c :: r)).2.length < (c :: r).length:=by
  have hk : keyB c = true:=by
    unfold keyB stopB
    unfold overB at ho
    have : (c == 62) = false:=beq_eq_false_iff_ne.2 h62
    rw [this]
    revert ho
    cases blankB c <;> cases (c == 47) <;> cases (c == 61) <;> simp
  have h1 : (c :: r).dropWhile keyB = r.dropWhile keyB:=by rw [List.dropWhile_cons,hk]; rfl
  have h0:=(Suf.dropWhile blankB (r.dropWhile keyB)).trans (Suf.dropWhile keyB r)
  unfold attC
  rw [h1]
  generalize (r.dropWhile keyB).dropWhile blankB = t at *
  have h2:=h0.le
  split
  · rename_i x
    have:=((valC_suf _).trans (Suf.dropWhile blankB x)).le
    simp only [List.length_cons] at *
    omega
  · show t.length < _
    simp only [List.length_cons]
    omega
end Go.Proofs.YteefodibpjgicaaGreat.M5

namespace Go.Proofs.YteefodibpjgicaaGreat.M5
theorem index_find (w l : List UInt8) (hw : w ≠ []) : Lib.index l w = if findL w l < l.length then (findL w l : Int) else -1:=by
  induction l with
  | nil =>
    cases w with
    | nil => exact absurd rfl hw
    | cons a b => rfl
  | cons c r ih =>
    rw [Lib.index,findL]
    cases hp : w.isPrefixOf (c :: r)
    · rw [if_neg Bool.false_ne_true,if_neg Bool.false_ne_true,ih]
      simp only [List.length_cons]
      by_cases h : findL w r < r.length
      · have hne : ((findL w r : Int) == -1) = false:=by rw [beq_eq_false_iff_ne]; omega
        rw [if_pos h,if_pos (show findL w r + 1 < r.length + 1 by omega),hne,if_neg Bool.false_ne_true]
        omega
      · rw [if_neg h,if_neg (show ¬ findL w r + 1 < r.length + 1 by omega)]
        rfl
    · rw [if_pos rfl,if_pos rfl,if_pos (by simp)]
      rfl
theorem cut_upto (w l : List UInt8) (hw : w ≠ []) : (Lib.cut l w).1 = (uptoR w l).1 ∧ (Lib.cut l w).2.1 = (uptoR w l).2:=by
  unfold Lib.cut uptoR
  rw [index_find w l hw]
  by_cases h : findL w l < l.length
  · rw [if_pos h,if_pos h,if_pos (by omega)]
    exact ⟨by rw [Int.toNat_natCast],by rw [Int.toNat_natCast]⟩
  · rw [if_neg h,if_neg h,if_neg (by decide)]
    exact ⟨rfl,rfl⟩
def endR (r : List UInt8) : Tok × List UInt8:=if findL [62] r < r.length then (⟨2,bs (M1.fold (r.takeWhile nameB)),[],⟨#[]⟩⟩,r.drop (findL [62] r + 1)) else (zero,[])
theorem drop_name (r : List UInt8) : (r.dropWhile nameB).dropWhile (· != 62) = r.drop (findL [62] r):=by
  rw [findL_span,span_drop]
  induction r with
  | nil => rfl
  | cons c t ih =>
    rw [List.dropWhile_cons]
    cases hn : nameB c
    · rfl
    · have h62 : (c != 62) = true:=by
        rw [bne_iff_ne]
        intro e
        subst e
        exact absurd hn (by decide)
      rw [if_pos rfl,ih,List.dropWhile_cons,h62,if_pos rfl]
def remarkR (w l : List UInt8) : Tok × List UInt8:=(⟨4,⟨#[]⟩,[],bs (uptoR w l).1⟩,(uptoR w l).2)
end Go.Proofs.YteefodibpjgicaaGreat.M5

namespace Go.Proofs.YteefodibpjgicaaGreat.M5
def plainN : List UInt8 → Nat
  | [] => 0
  | c :: r => if startsB (c :: r) then 0 else plainN r + 1
theorem plainN_le (l : List UInt8) : plainN l ≤ l.length:=by
  induction l with
  | nil => exact Nat.le_refl _
  | cons c r ih => rw [plainN]; split <;> simp; omega
theorem plainN_yes (l : List UInt8) (h : startsB l = true) : plainN l = 0:=by
  cases l with
  | nil => cases h
  | cons c r => rw [plainN,if_pos h]
theorem plainN_skip (n : Nat) : ∀ (l : List UInt8),n ≤ l.length → (∀ k,k < n → startsB (l.drop k) = false) → plainN l = n + plainN (l.drop n):=by
  induction n with
  | zero => intro l _ _; simp
  | succ n ih =>
    intro l h1 h2
    cases l with
    | nil => simp at h1
    | cons c r =>
      have h0:=h2 0 (by omega)
      rw [List.drop_zero] at h0
      rw [plainN,h0,if_neg Bool.false_ne_true,List.drop_succ_cons,ih r (by simpa using h1) (fun k hk => by
        have:=h2 (k + 1) (by omega)
        simpa using this)]
      omega
theorem starts_head (l : List UInt8) (h : startsB l = true) : ∃ r,l = 60 :: r:=by
  match l with
  | [] => cases h
  | [c] => cases h
  | c :: d :: r =>
    have : (c == 60 && (letterB d || d == 33 || d == 63 || d == 47)) = true:=h
    rw [Bool.and_eq_true] at this
    rw [beq_iff_eq.1 this.1]
    exact ⟨_,rfl⟩
theorem toksR_plain (l : List UInt8) : ∀ p,toksR p l = toksR (p ++ l.take (plainN l)) (l.drop (plainN l)):=by
  induction l with
  | nil => intro p; simp [plainN]
  | cons c r ih =>
    intro p
    rw [plainN]
    cases h : startsB (c :: r)
    · rw [if_neg Bool.false_ne_true,toksR_text p c r h,ih,List.take_succ_cons,List.drop_succ_cons,List.append_assoc]
      rfl
    · rw [if_pos rfl]
      simp
theorem plain_starts (l : List UInt8) (h : l.drop (plainN l) ≠ []) : startsB (l.drop (plainN l)) = true:=by
  induction l with
  | nil => exact absurd rfl h
  | cons c r ih =>
    cases hs : startsB (c :: r)
    · have e : plainN (c :: r) = plainN r + 1:=by rw [plainN,hs,if_neg Bool.false_ne_true]
      rw [e,List.drop_succ_cons] at h ⊢
      exact ih h
    · rw [plainN_yes _ hs,List.drop_zero,hs]
theorem plain_pos (l : List UInt8) (hl : l ≠ []) (h : startsB l = false) : 0 < plainN l:=by
  cases l with
  | nil => exact absurd rfl hl
  | cons c r => rw [plainN,h,if_neg Bool.false_ne_true]; omega
theorem toks_step (l : List UInt8) (hl : l ≠ []) (h : startsB l = false) : toksR [] l = ⟨3,⟨#[]⟩,[],bs (M2.decode (l.take (plainN l)))⟩ :: toksR [] (l.drop (plainN l)):=by
  have hp:=plain_pos l hl h
  have hne : l.take (plainN l) ≠ []:=by
    intro e
    have:=congrArg List.length e
    rw [List.length_take] at this
    cases l with
    | nil => exact absurd rfl hl
    | cons c r => simp at this; omega
  have hch : charsT (l.take (plainN l)) = [⟨3,⟨#[]⟩,[],bs (M2.decode (l.take (plainN l)))⟩]:=by
    rw [charsT,if_neg]
    rw [Bool.not_eq_true,List.isEmpty_eq_false_iff]
    exact hne
  rw [toksR_plain l [],List.nil_append]
  by_cases hd : l.drop (plainN l) = []
  · rw [hd,toksR_nil,toksR_nil,hch]
    rfl
  · have hs:=plain_starts l hd
    rw [toksR_tag _ _ hs,toksR_tag [] _ hs,hch]
    rfl
theorem toks_tag (l : List UInt8) (h : startsB l = true) :
    toksR [] l = (if (tagR l).1.kind ≠ 0 then [(tagR l).1] else []) ++ ((rawT (tagR l).1 (tagR l).2).1 ++ toksR [] (rawT (tagR l).1 (tagR l).2).2):=by
  rw [toksR_tag [] l h]
  rfl
def charsC (l : List UInt8) : Tok:=⟨3,⟨#[]⟩,[],bs (M2.decode (l.take (plainN l)))⟩
def contC (n : Nat) (l : List UInt8) : Tok:=if n = 0 then zero else ⟨3,⟨#[]⟩,[],bs (l.take n)⟩
end Go.Proofs.YteefodibpjgicaaGreat.M5
