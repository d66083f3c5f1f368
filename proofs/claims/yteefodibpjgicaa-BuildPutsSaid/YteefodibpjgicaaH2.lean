/- Texts joined: Math5, Math5b, Math5c, Math5d, Math5e, Builder, Math1b, Ref01, Ref01b, Ref01c, Strs, Ref02, Ref02b, Ref02c, Ref05, Ref05b, Ref05e, Kmp, Math5f, Math6, Utf, Shelf3, Dom1, Math3b, Dom2, Dom3, Math3c, MapKit, Dom4, Dom5, Tell, Dom6, Dom7, Lives3. -/
import Derived.Lib.CutLaws
import Derived.Shelf.Strings.BuilderK
import Derived.Shelf.Strings.BuilderRune
import Derived.Shelf.Strings.Prefix
import Derived.WalkKit
import Derived.Test.YteefodibpjgicaaRows
import Derived.BigCall
import Derived.Deep.QuietTactic
import Derived.BigQuiet
import Derived.Deep.DeepCutAuto
import Derived.Lib.Bytealg
import Derived.Lib.Strings
import Derived.Shelf.Strconv.Clone
import Derived.IntWalk
import Derived.Deep.CutBlock
import Derived.Shelf.Strings.Runes
import Derived.Shelf.Strings.IndexAny
import Derived.Shelf.Strings.AsciiSet
import Derived.Shelf.Strings.IndexAnyAll
import Derived.Outline
import Derived.Lib.IndexAny
import Derived.WalkMore
import Derived.Maps.OwnSet
import Derived.Lib.Hide
import Derived.RangeFuncNested
import Derived.RangeFuncBound
import Derived.RangeFuncLeaves
import Derived.Shelf.Abstract
import Derived.OwnWalkIn
import Derived.TacticsInMore
import Derived.LoopNIn
import Derived.LoopIn
import Derived.Test.YteefodibpjgicaaH1
/- Layer 5 by plain definitions: a text's tokens, by bytes. No program in it. -/
namespace Go.Proofs.Yteefodibpjgicaa

/-- A token. -/
structure Tok where
  kind : Int
  name : ByteArray
  attrs : List Att
  text : ByteArray
namespace M5
def bs (l : List UInt8) : ByteArray := ⟨l.toArray⟩
theorem bs_data (l : List UInt8) : (bs l).data.toList = l := by simp [bs]
theorem bs_of (s : ByteArray) : bs s.data.toList = s := by cases s; simp [bs]
def zero : Tok := ⟨0, ⟨#[]⟩, [], ⟨#[]⟩⟩
def blankB (c : UInt8) : Bool := c == 9 || c == 10 || c == 12 || c == 32
def letterB (c : UInt8) : Bool := decide (65 ≤ c.toNat ∧ c.toNat ≤ 90) || decide (97 ≤ c.toNat ∧ c.toNat ≤ 122)
def nameB (c : UInt8) : Bool := letterB c || decide (48 ≤ c.toNat ∧ c.toNat ≤ 57) || c == 45
/-- What ends an attribute's name. -/
def stopB (c : UInt8) : Bool := blankB c || c == 47 || c == 62 || c == 61
def startsB : List UInt8 → Bool
  | c :: d :: _ => c == 60 && (letterB d || d == 33 || d == 63 || d == 47)
  | _ => false
/-- Where a word stands; as long as the text, if it does not. -/
def findL (w : List UInt8) : List UInt8 → Nat
  | [] => 0
  | c :: r => if w.isPrefixOf (c :: r) then 0 else findL w r + 1
theorem findL_le (w l : List UInt8) : findL w l ≤ l.length := by
  induction l with
  | nil => exact Nat.le_refl _
  | cons c r ih => rw [findL]; split <;> simp; omega
def spanN (p : UInt8 → Bool) (l : List UInt8) : Nat := (l.takeWhile p).length
theorem spanN_le (p : UInt8 → Bool) (l : List UInt8) : spanN p l ≤ l.length := (List.takeWhile_prefix p).length_le
theorem span_take (p : UInt8 → Bool) (l : List UInt8) : l.take (spanN p l) = l.takeWhile p := by
  unfold spanN
  induction l with
  | nil => rfl
  | cons c r ih =>
    rw [List.takeWhile_cons]
    split
    · simp [ih]
    · simp
theorem span_drop (p : UInt8 → Bool) (l : List UInt8) : l.drop (spanN p l) = l.dropWhile p := by
  unfold spanN
  induction l with
  | nil => rfl
  | cons c r ih =>
    rw [List.takeWhile_cons, List.dropWhile_cons]
    split
    · simp [ih]
    · simp
/-- The attribute that a text begins with; what is left; whether it ends. -/
def valueAt (nm : ByteArray) (r : List UInt8) : Att × List UInt8 × Bool :=
  match r.dropWhile blankB with
  | [] => (⟨nm, bs (M2.decode [])⟩, [], true)
  | q :: t =>
    if q = 34 ∨ q = 39 then
      (if findL [q] t < t.length then (⟨nm, bs (M2.decode (t.take (findL [q] t)))⟩, t.drop (findL [q] t + 1), true) else (⟨nm, ⟨#[]⟩⟩, [], false))
    else (⟨nm, bs (M2.decode ((q :: t).takeWhile fun c => !blankB c && c != 62))⟩, (q :: t).dropWhile (fun c => !blankB c && c != 62), true)
def attrAt (l : List UInt8) : Att × List UInt8 × Bool :=
  match (l.dropWhile fun c => !stopB c).dropWhile blankB with
  | 61 :: r => valueAt (bs (M1.fold (l.takeWhile fun c => !stopB c))) r
  | r => (⟨bs (M1.fold (l.takeWhile fun c => !stopB c)), ⟨#[]⟩⟩, r, true)
def addT (acc : List Att) (a : Att) : List Att := if acc.any (fun b => M3.eqB b.name a.name) then acc else acc ++ [a]
def attsF : Nat → List UInt8 → List Att → Option (List Att × List UInt8)
  | _, [], _ => none
  | 0, _ :: _, _ => none
  | n + 1, c :: r, acc =>
    if c = 62 then some (acc, r)
    else if stopB c then attsF n r acc
    else if (attrAt (c :: r)).2.2 then attsF n (attrAt (c :: r)).2.1 (addT acc (attrAt (c :: r)).1) else none
/-- The beginning tag that a text begins with, and what is left behind it. -/
def beginR (l : List UInt8) : Tok × List UInt8 :=
  match attsF l.length ((l.drop 1).dropWhile nameB) [] with
  | some (as_, r) => (⟨1, bs (M1.fold ((l.drop 1).takeWhile nameB)), as_, ⟨#[]⟩⟩, r)
  | none => (zero, [])
def uptoR (w l : List UInt8) : List UInt8 × List UInt8 :=
  if findL w l < l.length then (l.take (findL w l), l.drop (findL w l + w.length)) else (l, [])
/-- What a text begins with, and what is left. -/
def tagR (l : List UInt8) : Tok × List UInt8 :=
  if startsB l then
    (match l with
    | _ :: d :: r =>
      if letterB d then beginR l
      else if [60, 33, 45, 45].isPrefixOf l then (⟨4, ⟨#[]⟩, [], bs (uptoR [45, 45, 62] (l.drop 4)).1⟩, (uptoR [45, 45, 62] (l.drop 4)).2)
      else if [60, 47, 62].isPrefixOf l then (zero, l.drop 3)
      else if d = 47 ∧ (r.head?.map letterB) = some true then
        (if findL [62] r < r.length then (⟨2, bs (M1.fold (r.takeWhile nameB)), [], ⟨#[]⟩⟩, r.drop (findL [62] r + 1)) else (zero, []))
      else (⟨4, ⟨#[]⟩, [], bs (uptoR [62] r).1⟩, (uptoR [62] r).2)
    | _ => (zero, l))
  else (zero, l)
/-- Where a raw element ends: w is '</' and its name. -/
def endsL (w : List UInt8) : List UInt8 → Option Nat
  | [] => none
  | c :: r =>
    if M1.fold ((c :: r).take w.length) == w && (match (c :: r).drop w.length with | d :: _ => blankB d || d == 47 || d == 62 | [] => false) then some 0
    else (endsL w r).map (· + 1)
def charsT (p : List UInt8) : List Tok := if p.isEmpty then [] else [⟨3, ⟨#[]⟩, [], bs (M2.decode p)⟩]
def asIs (p : List UInt8) : List Tok := if p.isEmpty then [] else [⟨3, ⟨#[]⟩, [], bs p⟩]
def endN (nm : List UInt8) (l : List UInt8) : Nat := (endsL ([60, 47] ++ nm) l).getD l.length
def toksF : Nat → List UInt8 → List UInt8 → List Tok
  | _, p, [] => charsT p
  | 0, p, _ :: _ => charsT p
  | n + 1, p, c :: r =>
    if startsB (c :: r) then
      charsT p ++ ((if (tagR (c :: r)).1.kind ≠ 0 then [(tagR (c :: r)).1] else []) ++
        (if (tagR (c :: r)).1.kind = 1 ∧ M3.rawB (tagR (c :: r)).1.name.data.toList = true then
          asIs ((tagR (c :: r)).2.take (endN (tagR (c :: r)).1.name.data.toList (tagR (c :: r)).2)) ++ toksF n [] ((tagR (c :: r)).2.drop (endN (tagR (c :: r)).1.name.data.toList (tagR (c :: r)).2))
        else toksF n [] (tagR (c :: r)).2))
    else toksF n (p ++ [c]) r
def tokens (l : List UInt8) : List Tok := toksF l.length [] l

/-! ### What is left stands at the end -/
def Suf (r l : List UInt8) : Prop := ∃ k, k ≤ l.length ∧ r = l.drop k
theorem Suf.refl (l : List UInt8) : Suf l l := ⟨0, Nat.zero_le _, rfl⟩
theorem Suf.nil (l : List UInt8) : Suf [] l := ⟨l.length, Nat.le_refl _, by simp⟩
theorem Suf.trans {a b c : List UInt8} (h : Suf a b) (k : Suf b c) : Suf a c := by
  obtain ⟨i, hi, rfl⟩ := h
  obtain ⟨j, hj, rfl⟩ := k
  refine ⟨j + i, ?_, by rw [List.drop_drop]⟩
  rw [List.length_drop] at hi
  omega
theorem Suf.drop (l : List UInt8) (k : Nat) : Suf (l.drop k) l := by
  by_cases h : k ≤ l.length
  · exact ⟨k, h, rfl⟩
  · exact ⟨l.length, Nat.le_refl _, by rw [List.drop_of_length_le (by omega), List.drop_length]⟩
theorem Suf.cons (c : UInt8) (r : List UInt8) : Suf r (c :: r) := ⟨1, by simp, rfl⟩
theorem Suf.dropWhile (p : UInt8 → Bool) (l : List UInt8) : Suf (l.dropWhile p) l := by
  rw [← span_drop]
  exact Suf.drop _ _
theorem Suf.le {r l : List UInt8} (h : Suf r l) : r.length ≤ l.length := by
  obtain ⟨k, hk, rfl⟩ := h
  rw [List.length_drop]
  omega
theorem Suf.at_ {r l : List UInt8} (h : Suf r l) : l.drop (l.length - r.length) = r := by
  obtain ⟨k, hk, rfl⟩ := h
  rw [List.length_drop]
  congr 1
  omega
theorem value_suf (nm : ByteArray) (r : List UInt8) : Suf (valueAt nm r).2.1 r := by
  unfold valueAt
  have h0 := Suf.dropWhile blankB r
  cases hd : r.dropWhile blankB with
  | nil => exact Suf.nil r
  | cons q t =>
    rw [hd] at h0
    dsimp only
    split
    · split
      · exact ((Suf.drop t _).trans (Suf.cons q t)).trans h0
      · exact Suf.nil r
    · exact (Suf.dropWhile (fun c => !blankB c && c != 62) (q :: t)).trans h0
theorem attr_suf (l : List UInt8) : Suf (attrAt l).2.1 l := by
  have h0 := (Suf.dropWhile blankB (l.dropWhile fun c => !stopB c)).trans (Suf.dropWhile _ l)
  unfold attrAt
  generalize (l.dropWhile fun c => !stopB c).dropWhile blankB = r at *
  split
  · exact ((value_suf _ _).trans (Suf.cons _ _)).trans h0
  · exact h0
theorem attr_lt (c : UInt8) (r : List UInt8) (h : stopB c = false) : (attrAt (c :: r)).2.1.length < (c :: r).length := by
  have h1 : ((c :: r).dropWhile fun c => !stopB c) = r.dropWhile fun c => !stopB c := by rw [List.dropWhile_cons, h]; rfl
  have h0 := (Suf.dropWhile blankB (r.dropWhile fun c => !stopB c)).trans (Suf.dropWhile _ r)
  unfold attrAt
  rw [h1]
  generalize (r.dropWhile fun c => !stopB c).dropWhile blankB = t at *
  have h2 := h0.le
  split
  · exact Nat.lt_of_le_of_lt (value_suf _ _).le (by simp only [List.length_cons] at *; omega)
  · show t.length < _
    simp only [List.length_cons]
    omega
theorem atts_suf (n : Nat) : ∀ (l : List UInt8) (acc : List Att) (as_ : List Att) (r : List UInt8), attsF n l acc = some (as_, r) → Suf r l := by
  induction n with
  | zero => intro l acc as_ r h; cases l <;> simp [attsF] at h
  | succ n ih =>
    intro l acc as_ r h
    cases l with
    | nil => simp [attsF] at h
    | cons c t =>
      rw [attsF] at h
      split at h
      · cases h; exact Suf.cons _ _
      · split at h
        · exact (ih _ _ _ _ h).trans (Suf.cons _ _)
        · split at h
          · exact (ih _ _ _ _ h).trans (attr_suf _)
          · cases h
/-- More fuel than signs changes nothing. -/
theorem atts_fuel (n : Nat) : ∀ (m : Nat) (l : List UInt8) (acc : List Att), l.length ≤ n → l.length ≤ m → attsF n l acc = attsF m l acc := by
  induction n with
  | zero => intro m l acc h1 h2; cases l with
    | nil => cases m <;> rfl
    | cons c r => simp at h1
  | succ n ih =>
    intro m l acc h1 h2
    cases l with
    | nil => cases m <;> rfl
    | cons c r =>
      cases m with
      | zero => simp at h2
      | succ m =>
        rw [attsF, attsF]
        simp only [List.length_cons] at h1 h2
        by_cases h62 : c = 62
        · rw [if_pos h62, if_pos h62]
        rw [if_neg h62, if_neg h62]
        cases hs : stopB c
        · have := attr_lt c r hs
          simp only [List.length_cons] at this
          simp only [Bool.false_eq_true, if_false]
          rw [ih m _ _ (by omega) (by omega)]
        · simp only [if_true]
          rw [ih m _ _ (by omega) (by omega)]
theorem begin_suf (l : List UInt8) : Suf (beginR l).2 l := by
  unfold beginR
  cases h : attsF l.length ((l.drop 1).dropWhile nameB) [] with
  | none => exact Suf.nil l
  | some p => exact ((atts_suf _ _ _ _ _ h).trans (Suf.dropWhile _ _)).trans (Suf.drop _ _)
theorem upto_suf (w l : List UInt8) : Suf (uptoR w l).2 l := by
  unfold uptoR
  split
  · exact Suf.drop _ _
  · exact Suf.nil l
theorem tag_suf (l : List UInt8) : Suf (tagR l).2 l := by
  unfold tagR
  split
  · split
    · rename_i c d r _
      have h0 : Suf r (c :: d :: r) := (Suf.cons d r).trans (Suf.cons c _)
      split
      · exact begin_suf _
      · split
        · exact (upto_suf _ _).trans (Suf.drop _ _)
        · split
          · exact Suf.drop _ _
          · split
            · split
              · exact (Suf.drop _ _).trans h0
              · exact Suf.nil _
            · exact (upto_suf _ _).trans h0
    · exact Suf.refl _
  · exact Suf.refl _
end M5
end Go.Proofs.Yteefodibpjgicaa

/- Tokens by definitions: the rounds of the attributes and of the tokens without fuel. -/
namespace Go.Proofs.Yteefodibpjgicaa.M5

/-- The attributes of a beginning tag, without fuel. -/
def attsR (l : List UInt8) (acc : List Att) : Option (List Att × List UInt8) := attsF l.length l acc
theorem attsR_nil (acc : List Att) : attsR [] acc = none := rfl
theorem attsR_cons (c : UInt8) (r : List UInt8) (acc : List Att) : attsR (c :: r) acc =
    if c = 62 then some (acc, r) else if stopB c then attsR r acc
    else if (attrAt (c :: r)).2.2 then attsR (attrAt (c :: r)).2.1 (addT acc (attrAt (c :: r)).1) else none := by
  show attsF (r.length + 1) (c :: r) acc = _
  rw [attsF]
  by_cases hc : c = 62
  · rw [if_pos hc, if_pos hc]
  · rw [if_neg hc, if_neg hc]
    cases hst : stopB c
    · rw [if_neg (Bool.false_ne_true), if_neg (Bool.false_ne_true)]
      have hlt := attr_lt c r hst
      rw [List.length_cons] at hlt
      rw [attsR, atts_fuel r.length (attrAt (c :: r)).2.1.length (attrAt (c :: r)).2.1 _ (by omega) (Nat.le_refl _)]
    · rfl
theorem attsR_suf (l : List UInt8) (acc as_ : List Att) (r : List UInt8) (h : attsR l acc = some (as_, r)) : Suf r l := atts_suf l.length l acc as_ r h
theorem begin_eq (l : List UInt8) : beginR l = match attsR ((l.drop 1).dropWhile nameB) [] with
  | some (as_, r) => (⟨1, bs (M1.fold ((l.drop 1).takeWhile nameB)), as_, ⟨#[]⟩⟩, r)
  | none => (zero, []) := by
  have hs := (Suf.dropWhile nameB (l.drop 1)).le
  have hd : (l.drop 1).length ≤ l.length := by rw [List.length_drop]; omega
  rw [beginR, attsR, atts_fuel l.length ((l.drop 1).dropWhile nameB).length _ [] (by omega) (Nat.le_refl _)]
  try (cases attsF ((l.drop 1).dropWhile nameB).length ((l.drop 1).dropWhile nameB) [] <;> rfl)
/-- Behind a tag less is left. -/
theorem tag_lt (l : List UInt8) (h : startsB l = true) : (tagR l).2.length < l.length := by
  match l with
  | [] => cases h
  | [c] => cases h
  | c :: d :: r =>
    have hlen : (c :: d :: r).length = r.length + 2 := rfl
    rw [tagR, if_pos h]
    show (if letterB d then _ else _ : Tok × List UInt8).2.length < _
    split
    · rw [begin_eq]
      cases ha : attsR (((c :: d :: r).drop 1).dropWhile nameB) [] with
      | none => show 0 < _; omega
      | some p =>
        have h1 := (attsR_suf _ _ p.1 p.2 ha).le
        have h2 := (Suf.dropWhile nameB ((c :: d :: r).drop 1)).le
        have h3 : ((c :: d :: r).drop 1).length = r.length + 1 := rfl
        show p.2.length < _
        omega
    · split
      · have h1 := (upto_suf [45, 45, 62] ((c :: d :: r).drop 4)).le
        rw [List.length_drop] at h1
        show (uptoR [45, 45, 62] ((c :: d :: r).drop 4)).2.length < _
        omega
      · split
        · show ((c :: d :: r).drop 3).length < _
          rw [List.length_drop]
          omega
        · split
          · split
            · show (r.drop _).length < _
              rw [List.length_drop]
              omega
            · show 0 < _
              omega
          · have h1 := (upto_suf [62] r).le
            show (uptoR [62] r).2.length < _
            omega
/-- More fuel than signs changes nothing. -/
theorem toks_fuel (n : Nat) : ∀ (m : Nat) (p l : List UInt8), l.length ≤ n → l.length ≤ m → toksF n p l = toksF m p l := by
  induction n with
  | zero => intro m p l h1 h2; cases l with
    | nil => cases m <;> rfl
    | cons c r => simp at h1
  | succ n ih =>
    intro m p l h1 h2
    cases l with
    | nil => cases m <;> rfl
    | cons c r =>
      cases m with
      | zero => simp at h2
      | succ m =>
        rw [toksF, toksF]
        simp only [List.length_cons] at h1 h2
        cases hs : startsB (c :: r)
        · rw [if_neg Bool.false_ne_true, if_neg Bool.false_ne_true, ih m _ _ (by omega) (by omega)]
        · have hlt := tag_lt (c :: r) hs
          rw [List.length_cons] at hlt
          rw [if_pos rfl, if_pos rfl, ih m _ (tagR (c :: r)).2 (by omega) (by omega)]
          rw [ih m _ ((tagR (c :: r)).2.drop _) (by rw [List.length_drop]; omega) (by rw [List.length_drop]; omega)]
/-- The tokens of what is left, where p stands ahead, without fuel. -/
def toksR (p l : List UInt8) : List Tok := toksF l.length p l
theorem tokens_eq (l : List UInt8) : tokens l = toksR [] l := rfl
theorem toksR_nil (p : List UInt8) : toksR p [] = charsT p := by rw [toksR, toksF]
/-- What is left behind a tag that begins a raw element: its text. -/
def rawT (t : Tok) (l : List UInt8) : List Tok × List UInt8 :=
  if t.kind = 1 ∧ M3.rawB t.name.data.toList = true then (asIs (l.take (endN t.name.data.toList l)), l.drop (endN t.name.data.toList l)) else ([], l)
theorem toksR_text (p : List UInt8) (c : UInt8) (r : List UInt8) (h : startsB (c :: r) = false) : toksR p (c :: r) = toksR (p ++ [c]) r := by
  show toksF (r.length + 1) p (c :: r) = _
  rw [toksF, h, if_neg Bool.false_ne_true]
  rfl
theorem toksR_tag (p : List UInt8) (l : List UInt8) (h : startsB l = true) :
    toksR p l = charsT p ++ ((if (tagR l).1.kind ≠ 0 then [(tagR l).1] else []) ++ ((rawT (tagR l).1 (tagR l).2).1 ++ toksR [] (rawT (tagR l).1 (tagR l).2).2)) := by
  cases l with
  | nil => cases h
  | cons c r =>
    have hlt := tag_lt (c :: r) h
    rw [List.length_cons] at hlt
    show toksF (r.length + 1) p (c :: r) = _
    rw [toksF, h, if_pos rfl]
    congr 2
    by_cases hr : (tagR (c :: r)).1.kind = 1 ∧ M3.rawB (tagR (c :: r)).1.name.data.toList = true
    · rw [if_pos hr, rawT, if_pos hr]
      congr 1
      exact toks_fuel _ _ _ _ (by rw [List.length_drop]; omega) (Nat.le_refl _)
    · rw [if_neg hr, rawT, if_neg hr]
      exact toks_fuel _ _ _ _ (by omega) (Nat.le_refl _)
end Go.Proofs.Yteefodibpjgicaa.M5

/- Tokens by definitions: an attribute and its value as the program tells them; what stands behind. -/
namespace Go.Proofs.Yteefodibpjgicaa.M5

theorem findL_span (q : UInt8) (t : List UInt8) : findL [q] t = spanN (· != q) t := by
  induction t with
  | nil => rfl
  | cons c r ih =>
    rw [findL]
    unfold spanN at *
    rw [List.takeWhile_cons]
    by_cases h : q = c
    · subst h
      simp [List.isPrefixOf]
    · have h1 : [q].isPrefixOf (c :: r) = false := by
        show (q == c && _) = false
        rw [beq_eq_false_iff_ne.2 h]
        rfl
      have h2 : (c != q) = true := bne_iff_ne.2 (fun e => h e.symm)
      rw [h1, h2, if_pos rfl, ih]
      rfl
/-- What stands up to a sign, and what stands behind that. -/
def quoted (q : UInt8) (t : List UInt8) : List UInt8 × List UInt8 := (t.takeWhile (· != q), (t.dropWhile (· != q)).drop 1)
def bareB (c : UInt8) : Bool := !blankB c && c != 62
def valC : List UInt8 → List UInt8 × List UInt8
  | [] => ([], [])
  | q :: t => if q = 34 ∨ q = 39 then quoted q t else ((q :: t).takeWhile bareB, (q :: t).dropWhile bareB)
def keyB (c : UInt8) : Bool := !stopB c
def attC (l : List UInt8) : Att × List UInt8 :=
  match (l.dropWhile keyB).dropWhile blankB with
  | 61 :: r => (⟨bs (M1.fold (l.takeWhile keyB)), bs (M2.decode (valC (r.dropWhile blankB)).1)⟩, (valC (r.dropWhile blankB)).2)
  | r => (⟨bs (M1.fold (l.takeWhile keyB)), ⟨#[]⟩⟩, r)
theorem val_eq (nm : ByteArray) (r : List UInt8) :
    ((valueAt nm r).2.2 = true → (valueAt nm r).1 = ⟨nm, bs (M2.decode (valC (r.dropWhile blankB)).1)⟩ ∧ (valueAt nm r).2.1 = (valC (r.dropWhile blankB)).2) ∧
    ((valueAt nm r).2.2 = false → (valC (r.dropWhile blankB)).2 = []) := by
  unfold valueAt
  cases r.dropWhile blankB with
  | nil => exact ⟨fun _ => ⟨rfl, rfl⟩, (fun h => nomatch h)⟩
  | cons q t =>
    dsimp only
    rw [valC]
    by_cases hq : q = 34 ∨ q = 39
    · rw [if_pos hq, if_pos hq]
      have hd : t.drop (findL [q] t) = t.dropWhile (· != q) := by rw [findL_span, span_drop]
      by_cases hf : findL [q] t < t.length
      · rw [if_pos hf]
        refine ⟨fun _ => ⟨?_, ?_⟩, (fun h => nomatch h)⟩
        · show (⟨nm, bs (M2.decode (t.take (findL [q] t)))⟩ : Att) = _
          rw [findL_span, span_take]
          rfl
        · show t.drop (findL [q] t + 1) = (t.dropWhile (· != q)).drop 1
          rw [← hd, List.drop_drop]
      · rw [if_neg hf]
        refine ⟨(fun h => nomatch h), fun _ => ?_⟩
        show (t.dropWhile (· != q)).drop 1 = []
        rw [← hd, List.drop_of_length_le (by omega : t.length ≤ findL [q] t)]
        rfl
    · rw [if_neg hq, if_neg hq]
      exact ⟨fun _ => ⟨rfl, rfl⟩, (fun h => nomatch h)⟩
theorem attrAt_61 (l r : List UInt8) (h : (l.dropWhile keyB).dropWhile blankB = 61 :: r) : attrAt l = valueAt (bs (M1.fold (l.takeWhile keyB))) r := by
  have e : (fun c => !stopB c) = keyB := rfl
  unfold attrAt
  rw [e, h]
  rfl
theorem attC_61 (l r : List UInt8) (h : (l.dropWhile keyB).dropWhile blankB = 61 :: r) : attC l = (⟨bs (M1.fold (l.takeWhile keyB)), bs (M2.decode (valC (r.dropWhile blankB)).1)⟩, (valC (r.dropWhile blankB)).2) := by
  unfold attC
  rw [h]
  rfl
theorem attrAt_ne (l : List UInt8) (h : ∀ r, (l.dropWhile keyB).dropWhile blankB ≠ 61 :: r) : attrAt l = (⟨bs (M1.fold (l.takeWhile keyB)), ⟨#[]⟩⟩, (l.dropWhile keyB).dropWhile blankB, true) := by
  have e : (fun c => !stopB c) = keyB := rfl
  unfold attrAt
  rw [e]
  split
  · rename_i h'
    exact absurd h' (h _)
  · rfl
theorem attC_ne (l : List UInt8) (h : ∀ r, (l.dropWhile keyB).dropWhile blankB ≠ 61 :: r) : attC l = (⟨bs (M1.fold (l.takeWhile keyB)), ⟨#[]⟩⟩, (l.dropWhile keyB).dropWhile blankB) := by
  unfold attC
  split
  · rename_i h'
    exact absurd h' (h _)
  · rfl
theorem att_eq (l : List UInt8) :
    ((attrAt l).2.2 = true → (attrAt l).1 = (attC l).1 ∧ (attrAt l).2.1 = (attC l).2) ∧ ((attrAt l).2.2 = false → (attC l).2 = []) := by
  by_cases h : ∃ r, (l.dropWhile keyB).dropWhile blankB = 61 :: r
  · obtain ⟨r, h⟩ := h
    rw [attrAt_61 l r h, attC_61 l r h]
    exact val_eq _ r
  · have h' : ∀ r, (l.dropWhile keyB).dropWhile blankB ≠ 61 :: r := fun r e => h ⟨r, e⟩
    rw [attrAt_ne l h', attC_ne l h']
    exact ⟨fun _ => ⟨rfl, rfl⟩, (fun h => nomatch h)⟩
/-- The attributes as the program tells them: blanks and the like first, then a '>', or an attribute, by what is left. -/
def overB (c : UInt8) : Bool := blankB c || c == 47 || c == 61
theorem atts_over (l : List UInt8) (acc : List Att) : attsR l acc = attsR (l.dropWhile overB) acc := by
  induction l with
  | nil => rfl
  | cons c r ih =>
    rw [List.dropWhile_cons]
    cases h : overB c
    · rfl
    · rw [if_pos rfl, attsR_cons]
      have h62 : c ≠ 62 := by
        intro e
        subst e
        exact absurd h (by decide)
      have hs : stopB c = true := by
        unfold overB at h
        unfold stopB
        revert h
        cases blankB c <;> cases (c == 47) <;> cases (c == 61) <;> cases (c == 62) <;> simp
      rw [if_neg h62, if_pos hs, ih]
theorem atts_one (c : UInt8) (r : List UInt8) (acc : List Att) (ho : overB c = false) (h62 : c ≠ 62) : attsR (c :: r) acc = attsR (attC (c :: r)).2 (addT acc (attC (c :: r)).1) := by
  have hs : stopB c = false := by
    unfold overB at ho
    unfold stopB
    have : (c == 62) = false := beq_eq_false_iff_ne.2 h62
    rw [this]
    revert ho
    cases blankB c <;> cases (c == 47) <;> cases (c == 61) <;> simp
  rw [attsR_cons, if_neg h62, hs, if_neg Bool.false_ne_true]
  obtain ⟨h1, h2⟩ := att_eq (c :: r)
  cases ho : (attrAt (c :: r)).2.2
  · rw [if_neg Bool.false_ne_true, h2 ho, attsR_nil]
  · rw [if_pos rfl, (h1 ho).1, (h1 ho).2]
theorem over_head (l : List UInt8) (c : UInt8) (r : List UInt8) (h : l.dropWhile overB = c :: r) : overB c = false := by
  induction l with
  | nil => cases h
  | cons d t ih =>
    rw [List.dropWhile_cons] at h
    cases hd : overB d
    · rw [hd, if_neg Bool.false_ne_true] at h
      cases h
      exact hd
    · rw [hd, if_pos rfl] at h
      exact ih h
theorem valC_suf (l : List UInt8) : Suf (valC l).2 l := by
  cases l with
  | nil => exact Suf.refl _
  | cons q t =>
    rw [valC]
    split
    · exact ((Suf.drop _ 1).trans (Suf.dropWhile _ t)).trans (Suf.cons q t)
    · exact Suf.dropWhile _ _
theorem valC_fst_le (l : List UInt8) : (valC l).1.length ≤ l.length := by
  cases l with
  | nil => exact Nat.le_refl _
  | cons q t =>
    rw [valC]
    split
    · have := (List.takeWhile_prefix (l := t) (· != q)).length_le
      show (t.takeWhile (· != q)).length ≤ t.length + 1
      omega
    · exact (List.takeWhile_prefix _).length_le
theorem attC_name_le (l : List UInt8) : (attC l).1.name.size ≤ l.length := by
  have e : (attC l).1.name = bs (M1.fold (l.takeWhile keyB)) := by
    unfold attC
    split <;> rfl
  rw [e]
  show (M1.fold (l.takeWhile keyB)).toArray.size ≤ _
  rw [List.size_toArray, M1.fold, List.length_map]
  exact (List.takeWhile_prefix _).length_le
theorem attC_suf (l : List UInt8) : Suf (attC l).2 l := by
  have h0 := (Suf.dropWhile blankB (l.dropWhile keyB)).trans (Suf.dropWhile keyB l)
  unfold attC
  generalize (l.dropWhile keyB).dropWhile blankB = r at *
  split
  · exact (((valC_suf _).trans (Suf.dropWhile blankB _)).trans (Suf.cons _ _)).trans h0
  · exact h0
theorem attC_lt (c : UInt8) (r : List UInt8) (ho : overB c = false) (h62 : c ≠ 62) : (attC (c :: r)).2.length < (c :: r).length := by
  have hk : keyB c = true := by
    unfold keyB stopB
    unfold overB at ho
    have : (c == 62) = false := beq_eq_false_iff_ne.2 h62
    rw [this]
    revert ho
    cases blankB c <;> cases (c == 47) <;> cases (c == 61) <;> simp
  have h1 : (c :: r).dropWhile keyB = r.dropWhile keyB := by rw [List.dropWhile_cons, hk]; rfl
  have h0 := (Suf.dropWhile blankB (r.dropWhile keyB)).trans (Suf.dropWhile keyB r)
  unfold attC
  rw [h1]
  generalize (r.dropWhile keyB).dropWhile blankB = t at *
  have h2 := h0.le
  split
  · rename_i x
    have := ((valC_suf _).trans (Suf.dropWhile blankB x)).le
    simp only [List.length_cons] at *
    omega
  · show t.length < _
    simp only [List.length_cons]
    omega
end Go.Proofs.Yteefodibpjgicaa.M5

/- Tokens by definitions: an ending tag, a comment; a word found as the library finds it. -/
namespace Go.Proofs.Yteefodibpjgicaa.M5

theorem index_find (w l : List UInt8) (hw : w ≠ []) : Lib.index l w = if findL w l < l.length then (findL w l : Int) else -1 := by
  induction l with
  | nil =>
    cases w with
    | nil => exact absurd rfl hw
    | cons a b => rfl
  | cons c r ih =>
    rw [Lib.index, findL]
    cases hp : w.isPrefixOf (c :: r)
    · rw [if_neg Bool.false_ne_true, if_neg Bool.false_ne_true, ih]
      simp only [List.length_cons]
      by_cases h : findL w r < r.length
      · have hne : ((findL w r : Int) == -1) = false := by rw [beq_eq_false_iff_ne]; omega
        rw [if_pos h, if_pos (show findL w r + 1 < r.length + 1 by omega), hne, if_neg Bool.false_ne_true]
        omega
      · rw [if_neg h, if_neg (show ¬ findL w r + 1 < r.length + 1 by omega)]
        rfl
    · rw [if_pos rfl, if_pos rfl, if_pos (by simp)]
      rfl
theorem cut_upto (w l : List UInt8) (hw : w ≠ []) : (Lib.cut l w).1 = (uptoR w l).1 ∧ (Lib.cut l w).2.1 = (uptoR w l).2 := by
  unfold Lib.cut uptoR
  rw [index_find w l hw]
  by_cases h : findL w l < l.length
  · rw [if_pos h, if_pos h, if_pos (by omega)]
    exact ⟨by rw [Int.toNat_natCast], by rw [Int.toNat_natCast]⟩
  · rw [if_neg h, if_neg h, if_neg (by decide)]
    exact ⟨rfl, rfl⟩
/-- What an ending tag tells; r stands behind its first two bytes. -/
def endR (r : List UInt8) : Tok × List UInt8 := if findL [62] r < r.length then (⟨2, bs (M1.fold (r.takeWhile nameB)), [], ⟨#[]⟩⟩, r.drop (findL [62] r + 1)) else (zero, [])
theorem drop_name (r : List UInt8) : (r.dropWhile nameB).dropWhile (· != 62) = r.drop (findL [62] r) := by
  rw [findL_span, span_drop]
  induction r with
  | nil => rfl
  | cons c t ih =>
    rw [List.dropWhile_cons]
    cases hn : nameB c
    · rfl
    · have h62 : (c != 62) = true := by
        rw [bne_iff_ne]
        intro e
        subst e
        exact absurd hn (by decide)
      rw [if_pos rfl, ih, List.dropWhile_cons, h62, if_pos rfl]
def remarkR (w l : List UInt8) : Tok × List UInt8 := (⟨4, ⟨#[]⟩, [], bs (uptoR w l).1⟩, (uptoR w l).2)
end Go.Proofs.Yteefodibpjgicaa.M5

/- Tokens by definitions: characters up to the next tag. -/
namespace Go.Proofs.Yteefodibpjgicaa.M5

def plainN : List UInt8 → Nat
  | [] => 0
  | c :: r => if startsB (c :: r) then 0 else plainN r + 1
theorem plainN_le (l : List UInt8) : plainN l ≤ l.length := by
  induction l with
  | nil => exact Nat.le_refl _
  | cons c r ih => rw [plainN]; split <;> simp; omega
theorem plainN_yes (l : List UInt8) (h : startsB l = true) : plainN l = 0 := by
  cases l with
  | nil => cases h
  | cons c r => rw [plainN, if_pos h]
theorem plainN_skip (n : Nat) : ∀ (l : List UInt8), n ≤ l.length → (∀ k, k < n → startsB (l.drop k) = false) → plainN l = n + plainN (l.drop n) := by
  induction n with
  | zero => intro l _ _; simp
  | succ n ih =>
    intro l h1 h2
    cases l with
    | nil => simp at h1
    | cons c r =>
      have h0 := h2 0 (by omega)
      rw [List.drop_zero] at h0
      rw [plainN, h0, if_neg Bool.false_ne_true, List.drop_succ_cons, ih r (by simpa using h1) (fun k hk => by
        have := h2 (k + 1) (by omega)
        simpa using this)]
      omega
theorem starts_head (l : List UInt8) (h : startsB l = true) : ∃ r, l = 60 :: r := by
  match l with
  | [] => cases h
  | [c] => cases h
  | c :: d :: r =>
    have : (c == 60 && (letterB d || d == 33 || d == 63 || d == 47)) = true := h
    rw [Bool.and_eq_true] at this
    rw [beq_iff_eq.1 this.1]
    exact ⟨_, rfl⟩
/-- What stands ahead of the next tag is passed over at once. -/
theorem toksR_plain (l : List UInt8) : ∀ p, toksR p l = toksR (p ++ l.take (plainN l)) (l.drop (plainN l)) := by
  induction l with
  | nil => intro p; simp [plainN]
  | cons c r ih =>
    intro p
    rw [plainN]
    cases h : startsB (c :: r)
    · rw [if_neg Bool.false_ne_true, toksR_text p c r h, ih, List.take_succ_cons, List.drop_succ_cons, List.append_assoc]
      rfl
    · rw [if_pos rfl]
      simp
theorem plain_starts (l : List UInt8) (h : l.drop (plainN l) ≠ []) : startsB (l.drop (plainN l)) = true := by
  induction l with
  | nil => exact absurd rfl h
  | cons c r ih =>
    cases hs : startsB (c :: r)
    · have e : plainN (c :: r) = plainN r + 1 := by rw [plainN, hs, if_neg Bool.false_ne_true]
      rw [e, List.drop_succ_cons] at h ⊢
      exact ih h
    · rw [plainN_yes _ hs, List.drop_zero, hs]
theorem plain_pos (l : List UInt8) (hl : l ≠ []) (h : startsB l = false) : 0 < plainN l := by
  cases l with
  | nil => exact absurd rfl hl
  | cons c r => rw [plainN, h, if_neg Bool.false_ne_true]; omega
/-- A text's tokens, from its beginning on, as the program takes them: a tag, or characters. -/
theorem toks_step (l : List UInt8) (hl : l ≠ []) (h : startsB l = false) : toksR [] l = ⟨3, ⟨#[]⟩, [], bs (M2.decode (l.take (plainN l)))⟩ :: toksR [] (l.drop (plainN l)) := by
  have hp := plain_pos l hl h
  have hne : l.take (plainN l) ≠ [] := by
    intro e
    have := congrArg List.length e
    rw [List.length_take] at this
    cases l with
    | nil => exact absurd rfl hl
    | cons c r => simp at this; omega
  have hch : charsT (l.take (plainN l)) = [⟨3, ⟨#[]⟩, [], bs (M2.decode (l.take (plainN l)))⟩] := by
    rw [charsT, if_neg]
    rw [Bool.not_eq_true, List.isEmpty_eq_false_iff]
    exact hne
  rw [toksR_plain l [], List.nil_append]
  by_cases hd : l.drop (plainN l) = []
  · rw [hd, toksR_nil, toksR_nil, hch]
    rfl
  · have hs := plain_starts l hd
    rw [toksR_tag _ _ hs, toksR_tag [] _ hs, hch]
    rfl
theorem toks_tag (l : List UInt8) (h : startsB l = true) :
    toksR [] l = (if (tagR l).1.kind ≠ 0 then [(tagR l).1] else []) ++ ((rawT (tagR l).1 (tagR l).2).1 ++ toksR [] (rawT (tagR l).1 (tagR l).2).2) := by
  rw [toksR_tag [] l h]
  rfl
def charsC (l : List UInt8) : Tok := ⟨3, ⟨#[]⟩, [], bs (M2.decode (l.take (plainN l)))⟩
def contC (n : Nat) (l : List UInt8) : Tok := if n = 0 then zero else ⟨3, ⟨#[]⟩, [], bs (l.take n)⟩
end Go.Proofs.Yteefodibpjgicaa.M5

/- strings.Builder and strings.HasPrefix in this program: the library's contracts where they fit; copyCheck, WriteByte, WriteRune walked here (their bodies in this translation differ from the ones the shelf was made of). -/
namespace Go.Proofs.Yteefodibpjgicaa
open Go.Shelf Go.RowKit
def Try.lays169_ren : Go.Shelf.Ren := ⟨fun | 169 => 31 | n => n, fun | 70 => 50 | 9 => 9 | 0 => 0 | 72 => 53 | 37 => 51 | 127 => 86 | 3 => 3 | 5 => 5 | n => n, fun | n => n⟩
theorem Try.lays169 : Go.Proofs.Lays.n169 Try.prog Try.lays169_ren := {
  mixed := by kernel_rfl
  f169 := Try.func31.trans (congrArg some (by kernel_rfl))
  t0 := Try.underlying0
  a0 := Try.isAgg0
  z0 := Try.sizeOf0
  v0 := Try.zeroValue0
  t3 := Try.underlying3
  a3 := Try.isAgg3
  z3 := Try.sizeOf3
  v3 := Try.zeroValue3
  t9 := Try.underlying9
  a9 := Try.isAgg9
  z9 := Try.sizeOf9
  v9 := Try.zeroValue9
  t37 := Try.underlying51
  a37 := Try.isAgg51
  z37 := Try.sizeOf51
  v37 := Try.zeroValue51
  t70 := Try.underlying50
  a70 := Try.isAgg50
  z70 := Try.sizeOf50
  v70 := Try.zeroValue50
  t72 := Try.underlying53
  a72 := Try.isAgg53
  z72 := Try.sizeOf53
  v72 := Try.zeroValue53
  t127 := Try.underlying86
  a127 := Try.isAgg86
  z127 := Try.sizeOf86
  v127 := Try.zeroValue86 }
theorem Try.Builder_Extra_169 : Builder.Extra Try.prog Try.lays169_ren := {
  sizeBuilder := by kernel_rfl
  liesBuilder := by kernel_rfl
  t5 := Try.underlying5
  a5 := Try.isAgg5
  z5 := Try.sizeOf5
  v5 := Try.zeroValue5
  infoByte := by kernel_rfl
  cellsByte := by kernel_rfl
  sizeByte := by kernel_rfl
  neB5 := by decide }
theorem bString (B b : Nat) (l : List UInt8) (w : World) (h : Lib.IsBuilderF 53 5 B b (Lib.byteCells l) w) (hBw : B ≤ w.heap.size) :
    Calls Try.prog 31 #[.pointer (some ⟨b, 0, none⟩)] w fun e w' => e = .returned (.string ⟨l.toArray⟩) ∧ (Lib.IsBuilderF 53 5 B b (Lib.byteCells l) w' ∧ Below B w w' ∧ Lib.OthersKept 5 (some b) w w') := Any.Builder_String_any_k Try.lays169 Try.Builder_Extra_169 B b l w h hBw

/-! ### copyCheck, WriteByte, WriteRune -/
theorem sizeB : (Try.prog.info? 53).map (·.size) = some 2 := by kernel_rfl

theorem infoU8 : (Try.prog.info? 5).map (fun i => (i.zero, i.size, i.bytes)) = some (some (.int .u8 0), 1, 1) := by kernel_rfl

set_option maxHeartbeats 1000000 in
set_option maxRecDepth 100000 in
theorem copyCheck_used (b : Nat) (w : World) (h0 : w.cell? ⟨b, 0, none⟩ = some (.pointer (some ⟨b, 0, none⟩))) :
    Calls Try.prog 45 #[.pointer (some ⟨b, 0, none⟩)] w fun e w' => e = .returned (.tuple #[]) ∧ w' = w := by
  obtain ⟨j, hj, _⟩ := Option.map_eq_some_iff.1 sizeB
  go_enter Try.func45, Try.ntmps45
  go_wp2
  rw [Lib.run_neq_ptr_same w _ Try.underlying50 hj]
  go_wp2
  go_end0
  exact ⟨rfl, rfl⟩

set_option maxHeartbeats 1000000 in
set_option maxRecDepth 100000 in
theorem copyCheck_fresh (b : Nat) (w : World) (h0 : w.cell? ⟨b, 0, none⟩ = some (.pointer none)) (hsh : w.shape? b = some (53, 2)) (hfz : w.frozen? ⟨b, 0, none⟩ = false) :
    Calls Try.prog 45 #[.pointer (some ⟨b, 0, none⟩)] w fun e w' => e = .returned (.tuple #[]) ∧ w' = w.setCell ⟨b, 0, none⟩ (.pointer (some ⟨b, 0, none⟩)) := by
  obtain ⟨j, hj, hjs⟩ := Option.map_eq_some_iff.1 sizeB
  go_enter Try.func45, Try.ntmps45
  go_wp2
  rw [Lib.run_to_unsafe w ⟨b, 0, none⟩ Try.underlying50 Try.underlying91 hj (by rw [hjs]; decide) hsh (Nat.zero_lt_succ 1)]
  simp only [Result.andThen]
  rw [Oper.upon_value]
  go_wp2
  rw [run_callFunc_extern Try.func47 (by kernel_rfl) (by kernel_rfl) (by kernel_rfl) (e := Extern.AbiNoEscape.same) (by kernel_rfl)]
  rw [Lib.run_noEscape]
  simp only [Result.andThen]
  rw [Oper.upon_value]
  go_wp2
  rw [Lib.run_from_unsafe w ⟨b, 0, none⟩ Try.underlying91 Try.underlying50 hj hsh (by kernel_rfl)]
  simp only [Result.andThen]
  rw [Oper.upon_value]
  go_wp2
  go_end0
  exact ⟨rfl, rfl⟩

theorem copyCheck_k (B b : Nat) (bs : List Value) (w : World) (h : Lib.IsBuilderF 53 5 B b bs w) :
    Calls Try.prog 45 #[.pointer (some ⟨b, 0, none⟩)] w fun e w' => e = .returned (.tuple #[]) ∧ (Lib.BuilderAtF 53 5 B b (.pointer (some ⟨b, 0, none⟩)) bs w' ∧ Below B w w' ∧ Lib.OthersKept 5 (some b) w w') := by
  rcases h with h | h
  · refine (copyCheck_fresh b w h.cell0 h.shape h.frozen0).mono ?_
    rintro e w' ⟨rfl, rfl⟩
    exact ⟨rfl, h.used _, (Below.refl B w).setCell (p := ⟨b, 0, none⟩) h.1 _, (Lib.OthersKept.refl _ _ w).setCell ⟨b, 0, none⟩ rfl _⟩
  · refine (copyCheck_used b w h.cell0).mono ?_
    rintro e w' ⟨rfl, rfl⟩
    exact ⟨rfl, h, Below.refl B _, Lib.OthersKept.refl _ _ _⟩

end Go.Proofs.Yteefodibpjgicaa

/- Plain facts: the document's own way to tell the character that bytes begin with, held against 'dec'. -/
namespace Go.Proofs.Yteefodibpjgicaa
namespace M1

def foll (c : Nat) : Prop := 128 ≤ c ∧ c < 192
/-- How many bytes, what the first one gives, the least number. -/
def Cls (c n v least : Nat) : Prop := (192 ≤ c ∧ c < 224 ∧ n = 2 ∧ v + 192 = c ∧ least = 128) ∨ (224 ≤ c ∧ c < 240 ∧ n = 3 ∧ v + 224 = c ∧ least = 2048) ∨ (240 ≤ c ∧ c < 248 ∧ n = 4 ∧ v + 240 = c ∧ least = 65536)
def at_ (l : List UInt8) (k : Nat) : Nat := (l.getD k 0).toNat
theorem at_lt (l : List UInt8) (k : Nat) : at_ l k < 256 := (l.getD k 0).toNat_lt
/-- What the first k bytes give. -/
def vv (l : List UInt8) (v : Nat) : Nat → Nat
  | 0 => v
  | 1 => v
  | k + 2 => 64 * vv l v (k + 1) + at_ l (k + 1) - 128
def badv (v least : Nat) : Prop := v < least ∨ v > 1114111 ∨ (55296 ≤ v ∧ v ≤ 57343)
instance (v least : Nat) : Decidable (badv v least) := by unfold badv; infer_instance
instance (c : Nat) : Decidable (foll c) := by unfold foll; infer_instance

theorem dec_at (l : List UInt8) : dec l = if at_ l 0 < 0x80 then (at_ l 0, 1)
  else if at_ l 0 / 32 == 6 && (decide (1 < l.length) && at_ l 1 / 64 == 2) then
    if (at_ l 0 % 32) * 64 + at_ l 1 % 64 ≥ 0x80 then ((at_ l 0 % 32) * 64 + at_ l 1 % 64, 2) else (65533, 1)
  else if at_ l 0 / 16 == 14 && (decide (1 < l.length) && at_ l 1 / 64 == 2) && (decide (2 < l.length) && at_ l 2 / 64 == 2) then
    if (at_ l 0 % 16) * 4096 + (at_ l 1 % 64) * 64 + at_ l 2 % 64 ≥ 0x800 && decide (okRune ((at_ l 0 % 16) * 4096 + (at_ l 1 % 64) * 64 + at_ l 2 % 64 : Nat)) then
      ((at_ l 0 % 16) * 4096 + (at_ l 1 % 64) * 64 + at_ l 2 % 64, 3) else (65533, 1)
  else if at_ l 0 / 8 == 30 && (decide (1 < l.length) && at_ l 1 / 64 == 2) && (decide (2 < l.length) && at_ l 2 / 64 == 2) && (decide (3 < l.length) && at_ l 3 / 64 == 2) then
    if (at_ l 0 % 8) * 262144 + (at_ l 1 % 64) * 4096 + (at_ l 2 % 64) * 64 + at_ l 3 % 64 ≥ 0x10000 && decide (okRune ((at_ l 0 % 8) * 262144 + (at_ l 1 % 64) * 4096 + (at_ l 2 % 64) * 64 + at_ l 3 % 64 : Nat)) then
      ((at_ l 0 % 8) * 262144 + (at_ l 1 % 64) * 4096 + (at_ l 2 % 64) * 64 + at_ l 3 % 64, 4) else (65533, 1)
  else (65533, 1) := by
  simp only [← valid_iff]; rfl

theorem dec_low (l : List UInt8) (h : at_ l 0 < 128) : dec l = (at_ l 0, 1) := by rw [dec_at, if_pos h]

theorem dec_none (l : List UInt8) (h : 128 ≤ at_ l 0) (h2 : at_ l 0 < 192 ∨ 248 ≤ at_ l 0) : dec l = (65533, 1) := by
  have := at_lt l 0
  rw [dec_at, if_neg (by omega), if_neg (by simp; omega), if_neg (by simp; omega), if_neg (by simp; omega)]

theorem dec_short (l : List UInt8) {n v least : Nat} (h : Cls (at_ l 0) n v least) (h2 : l.length < n) : dec l = (65533, 1) := by
  rcases h with ⟨h3, h4, rfl, h5, rfl⟩ | ⟨h3, h4, rfl, h5, rfl⟩ | ⟨h3, h4, rfl, h5, rfl⟩
  all_goals rw [dec_at, if_neg (by omega), if_neg (by simp; omega), if_neg (by simp; omega), if_neg (by simp; omega)]

theorem dec_stop (l : List UInt8) {n v least : Nat} (h : Cls (at_ l 0) n v least) (k : Nat) (h1 : 1 ≤ k) (hk : k < n) (h2 : ¬ foll (at_ l k)) : dec l = (65533, 1) := by
  have hb := at_lt l k
  unfold foll at h2
  have h2' : ¬ at_ l k / 64 = 2 := by omega
  rcases h with ⟨h3, h4, rfl, h5, rfl⟩ | ⟨h3, h4, rfl, h5, rfl⟩ | ⟨h3, h4, rfl, h5, rfl⟩
  · obtain rfl : k = 1 := by omega
    rw [dec_at, if_neg (by omega), if_neg (by simp [h2']), if_neg (by simp; omega), if_neg (by simp; omega)]
  · rcases (by omega : k = 1 ∨ k = 2) with rfl | rfl
    all_goals rw [dec_at, if_neg (by omega), if_neg (by simp; omega), if_neg (by simp [h2']), if_neg (by simp; omega)]
  · rcases (by omega : k = 1 ∨ k = 2 ∨ k = 3) with rfl | rfl | rfl
    all_goals rw [dec_at, if_neg (by omega), if_neg (by simp; omega), if_neg (by simp; omega), if_neg (by simp [h2'])]

set_option maxRecDepth 10000 in
theorem dec_full (l : List UInt8) {n v least : Nat} (h : Cls (at_ l 0) n v least) (hl : n ≤ l.length) (hf : ∀ k, 1 ≤ k → k < n → foll (at_ l k)) : dec l = if badv (vv l v n) least then (65533, 1) else (vv l v n, n) := by
  have b1 := at_lt l 1
  have b2 := at_lt l 2
  have b3 := at_lt l 3
  rcases h with ⟨h3, h4, rfl, h5, rfl⟩ | ⟨h3, h4, rfl, h5, rfl⟩ | ⟨h3, h4, rfl, h5, rfl⟩
  · have f1 := hf 1 (by omega) (by omega)
    unfold foll at f1
    have e : vv l v 2 = (at_ l 0 % 32) * 64 + at_ l 1 % 64 := by
      have : vv l v 2 = 64 * v + at_ l 1 - 128 := rfl
      omega
    rw [dec_at, if_neg (by omega), if_pos (by simp; omega), e]
    by_cases hb : (at_ l 0 % 32) * 64 + at_ l 1 % 64 ≥ 128
    · rw [if_pos hb, if_neg (by unfold badv; omega)]
    · rw [if_neg hb, if_pos (by unfold badv; omega)]
  · have f1 := hf 1 (by omega) (by omega)
    have f2 := hf 2 (by omega) (by omega)
    unfold foll at f1 f2
    have e : vv l v 3 = (at_ l 0 % 16) * 4096 + (at_ l 1 % 64) * 64 + at_ l 2 % 64 := by
      have : vv l v 3 = 64 * (64 * v + at_ l 1 - 128) + at_ l 2 - 128 := rfl
      omega
    rw [dec_at, if_neg (by omega), if_neg (by simp; omega), if_pos (by simp; omega), e]
    generalize (at_ l 0 % 16) * 4096 + (at_ l 1 % 64) * 64 + at_ l 2 % 64 = x at *
    by_cases hb : badv x 2048
    · rw [if_pos hb, if_neg (by simp [okRune]; unfold badv at hb; omega)]
    · rw [if_neg hb, if_pos (by simp [okRune]; unfold badv at hb; omega)]
  · have f1 := hf 1 (by omega) (by omega)
    have f2 := hf 2 (by omega) (by omega)
    have f3 := hf 3 (by omega) (by omega)
    unfold foll at f1 f2 f3
    have e : vv l v 4 = (at_ l 0 % 8) * 262144 + (at_ l 1 % 64) * 4096 + (at_ l 2 % 64) * 64 + at_ l 3 % 64 := by
      have : vv l v 4 = 64 * (64 * (64 * v + at_ l 1 - 128) + at_ l 2 - 128) + at_ l 3 - 128 := rfl
      omega
    rw [dec_at, if_neg (by omega), if_neg (by simp; omega), if_neg (by simp; omega), if_pos (by simp; omega), e]
    generalize (at_ l 0 % 8) * 262144 + (at_ l 1 % 64) * 4096 + (at_ l 2 % 64) * 64 + at_ l 3 % 64 = x at *
    by_cases hb : badv x 65536
    · rw [if_pos hb, if_neg (by simp [okRune]; unfold badv at hb; omega)]
    · rw [if_neg hb, if_pos (by simp [okRune]; unfold badv at hb; omega)]

/-- Does a 13 stand right ahead of place k? -/
def prev (rs : List Int) : Nat → Bool
  | 0 => false
  | k + 1 => decide (rs.getD k 0 = 13)
/-- What 'mk' adds for one character. -/
def piece (x : Int) (p : Bool) : List Int := if x = 13 then [10] else if x = 10 ∧ p = true then [] else if x = 0 then [65533] else [x]
theorem mk_drop (rs : List Int) (k : Nat) (h : k < rs.length) : mk (prev rs k) (rs.drop k) = piece rs[k] (prev rs k) ++ mk (prev rs (k + 1)) (rs.drop (k + 1)) := by
  rw [List.drop_eq_getElem_cons h, mk]
  have : prev rs (k + 1) = decide (rs[k] = 13) := by simp [prev, List.getD_eq_getElem?_getD, List.getElem?_eq_getElem h]
  rw [this]; rfl

def sameB (a b : List Int) : Bool := decide (a = b)
theorem sameB_len {a b : List Int} (h : a.length ≠ b.length) : sameB a b = false := decide_eq_false (fun e => h (by rw [e]))
theorem sameB_at {a b : List Int} {k : Nat} (h : k < a.length) (h' : k < b.length) (hd : a[k] ≠ b[k]) : sameB a b = false := decide_eq_false (fun e => hd (by subst e; rfl))
theorem sameB_self (a : List Int) : sameB a a = true := decide_eq_true rfl
theorem sameB_yes {a b : List Int} (h : a.length = b.length) (hd : a.take a.length = b.take a.length) : sameB a b = true := by
  rw [List.take_length, h, List.take_length] at hd
  exact decide_eq_true hd
theorem take_step {a b : List Int} {k : Nat} (h : k < a.length) (h' : k < b.length) (ht : a.take k = b.take k) (he : a[k] = b[k]) : a.take (k + 1) = b.take (k + 1) := by
  rw [List.take_succ_eq_append_getElem h, List.take_succ_eq_append_getElem h', ht, he]
end M1
end Go.Proofs.Yteefodibpjgicaa

/- The document's answers of layer 1 (package strainerref01): what each call gives. -/
namespace Go.Proofs.Yteefodibpjgicaa
open Go.RowKit

end Go.Proofs.Yteefodibpjgicaa

/- The document's answers of layer 1, the rest: characters, texts, made right, folded; lists held against one another. -/
namespace Go.Proofs.Yteefodibpjgicaa
open Go.RowKit

theorem info32' : (Try.prog.info? 21).map (fun i => (i.zero, i.size, i.bytes)) = some (some (.int .i32 0), 1, 4) := by kernel_rfl

theorem drop_ne' {l : List UInt8} {k : Nat} (h : k < l.length) : l.drop k ≠ [] := ne_of_lt (k := 0) (by rw [List.length_drop]; omega)

theorem Sl.fresh (w : World) (e : TypeId) (xs : List Value) (n : Nat) (hn : xs.length = n) (h : n ≤ 4) : Sl (w.alloc (.cells xs.toArray e)) (.slice (some ⟨w.heap.size, 0, none⟩) n n) xs := by
  subst hn
  refine ⟨_, xs.length, rfl, Nat.le_refl _, by omega, (fun h => by cases h), fun _ => ⟨_, 0, rfl, fun j hj => ?_⟩⟩
  rw [Nat.zero_add, World.cell?_alloc_at _ _ _ _ rfl]
  simp [hj]

theorem runeCells_one (r : Int) : ∀ u ∈ Lib.runeCells r, u.oneCell' = true := by
  intro u hu
  simp only [Lib.runeCells, List.mem_map] at hu
  obtain ⟨x, _, rfl⟩ := hu
  rfl

end Go.Proofs.Yteefodibpjgicaa

/- The document's answers of layer 1, the rest: made right, folded; lists held against one another. -/
namespace Go.Proofs.Yteefodibpjgicaa
open Go.RowKit

theorem Sl.i32 {w : World} {xs : List Int} {a : Option Addr} {n cap : Nat} (h : Sl w (.slice a n cap) (i32s xs)) (k : Nat) (hk : k < xs.length) : ∃ b off, a = some ⟨b, off, none⟩ ∧ b < w.heap.size ∧ w.cell? ⟨b, off + k, none⟩ = some (.int .i32 xs[k]) := by
  obtain ⟨a', cap', h1, h2, h3, h4, h5⟩ := h
  cases h1
  obtain ⟨b, off, h6, h7⟩ := h5 (ne_of_lt (k := k) (by simpa using hk))
  have h8 := h7 k (by simpa using hk)
  refine ⟨b, off, h6, World.block_lt_of_cell? w _ h8, ?_⟩
  rw [h8]; simp [i32s]

end Go.Proofs.Yteefodibpjgicaa

/- Calls of package strings in this program: a builder's WriteString, IndexByte, Contains at one byte, Clone. -/
namespace Go.Proofs.Yteefodibpjgicaa
open Go.Shelf Go.RowKit

set_option maxHeartbeats 2000000 in
set_option maxRecDepth 100000 in
theorem bWriteString (B b : Nat) (bs : List Value) (s : ByteArray) (w : World) (h : Lib.IsBuilderF 53 5 B b bs w) (hlen : bs.length + s.size ≤ 140737488355328) (hBw : B ≤ w.heap.size) :
    Calls Try.prog 41 #[.pointer (some ⟨b, 0, none⟩), .string s] w fun e w' => e = .returned (.tuple #[.int .i64 s.size, .nilIface]) ∧ (Lib.BuilderAtF 53 5 B b (.pointer (some ⟨b, 0, none⟩)) (bs ++ Lib.strCells s) w' ∧ Below B w w' ∧ Lib.OthersKept 5 (some b) w w') := by
  obtain ⟨i0, hi, hz0, hz1, hz2⟩ := info_parts infoU8
  go_enter Try.func41, Try.ntmps41
  go_wp2_with (go_at_call 45; refine (copyCheck_k B b bs _ h).mono ?_)
  rintro e w1 ⟨rfl, h1, hb1, hk1⟩
  obtain ⟨hB, v, hbk, hown, hne⟩ := h1
  have c0 : w1.cell? ⟨b, 0, none⟩ = some (.pointer (some ⟨b, 0, none⟩)) := by rw [Lib.cell_of_heap hbk]; rfl
  have c1 : w1.cell? ⟨b, 1, none⟩ = some v := by rw [Lib.cell_of_heap hbk]; rfl
  go_wp2_with (at_builtin; refine Lib.wpList_append_own_stringF _ rfl _ _ 51 9 rfl B 5 i0 Try.underlying51 Try.underlying9 hi hz0 hz1 hz2 _ _ _ rfl hown s rfl ?c3 ?c4 ?c5 ?_)
  case c3 => unfold maxLen; omega
  case c4 => omega
  case c5 => have := hb1.size; omega
  intro v' w2 hown' hgrow _
  have hlt : b < w1.heap.size := by
    rcases Nat.lt_or_ge b w1.heap.size with h' | h'
    · exact h'
    · simp [Array.getElem?_eq_none h'] at hbk
  have hb2 : w2.heap[b]? = some (.cells #[.pointer (some ⟨b, 0, none⟩), v] 53 (0, 0)) := by
    rw [hgrow.block b hlt (fun e => hne e.symm)]
    exact hbk
  have d0 : w2.cell? ⟨b, 0, none⟩ = some (.pointer (some ⟨b, 0, none⟩)) := by rw [Lib.cell_of_heap hb2]; rfl
  have d1 : w2.cell? ⟨b, 1, none⟩ = some v := by rw [Lib.cell_of_heap hb2]; rfl
  have f1 : w2.frozen? ⟨b, 1, none⟩ = false := Lib.frozen_of_heap hb2 1
  obtain ⟨ao, n', cap, rfl⟩ : ∃ ao n' cap, v' = .slice ao n' cap := by
    rcases hown'.2 with ⟨hv, _⟩ | ⟨g, cap, cur, fz, hv, _⟩
    · exact ⟨_, _, _, hv⟩
    · exact ⟨_, _, _, hv⟩
  go_wp2
  go_ret2
  refine ⟨rfl, ?_, ?_, (hk1.grown hgrow (Lib.ownsRowF_kind hown)).setCell ⟨b, 1, none⟩ rfl _⟩
  · exact Lib.BuilderAtF.put (T := 53) (e := 5) hB hb2 (bs' := bs ++ Lib.strCells s) (by simpa [Lib.strCells_length] using hown') (by decide)
  · exact (hb1.grown hgrow (by have := hb1.size; omega) (fun k hk => (hown.lt k hk).1)).setCell (p := ⟨b, 1, none⟩) hB _


end Go.Proofs.Yteefodibpjgicaa

/- The document's answers of layer 2: names, digits, numbers, the reference at the beginning. -/
namespace Go.Proofs.Yteefodibpjgicaa
open Go.RowKit

def namesV : List Value := M2.tbl.map fun p => .string ⟨p.1.toArray⟩

def codesV : List Value := M2.tbl.map fun p => .int .i64 (p.2 : Int)

/-- A digit of a base, as it is told there. -/
def digN (b : Nat) (r : Int) : Int := if (b : Int) ≤ M2.digZ r then -1 else M2.digZ r

theorem digN_no {b : Nat} {c : UInt8} (h : M2.isD b c = false) : digN b c.toNat < 0 := by
  unfold digN
  have := M2.isD_no h
  split <;> omega

theorem digN_yes {b : Nat} {c : UInt8} (h : M2.isD b c = true) : digN b c.toNat = M2.digZ c.toNat ∧ 0 ≤ digN b c.toNat ∧ digN b c.toNat < b := by
  unfold M2.isD at h
  have := of_decide_eq_true h
  unfold digN
  rw [if_neg (by omega)]
  omega

/-- What a call answers of a number that may be none. -/
def ansB (o : Option Int) : Value := .tuple #[.int .i64 (o.getD 0), .bool o.isSome]

theorem ansB_mk (o : Option Int) : ∃ x y, ansB o = .tuple #[.int .i64 x, .bool y] := ⟨_, _, rfl⟩

end Go.Proofs.Yteefodibpjgicaa

/- The document's answers of layer 2, the rest: the reference at the beginning, texts decoded, texts written. -/
namespace Go.Proofs.Yteefodibpjgicaa
open Go.RowKit

/-- What a call answers of a reference, in numbers. -/
def ansI (o : Option (Int × Nat)) : Value := .tuple #[.int .i64 ((o.map (·.1)).getD 0), .int .i64 (((o.map (·.2)).getD 0 : Nat) : Int)]

theorem ansI_none : ansI none = .tuple #[.int .i64 0, .int .i64 0] := rfl

theorem ansI_some (r : Int) (n : Nat) : ansI (some (r, n)) = .tuple #[.int .i64 r, .int .i64 (n : Int)] := rfl

theorem ansB_none : ansB none = .tuple #[.int .i64 0, .bool false] := rfl

theorem ansB_some (r : Int) : ansB (some r) = .tuple #[.int .i64 r, .bool true] := rfl

theorem ne_byte {c d : UInt8} (h : c ≠ d) : ((c.toNat : Int) == (d.toNat : Int)) = false := by
  simp only [beq_eq_false_iff_ne]
  intro e
  exact h (UInt8.toNat_inj.1 (by omega))

theorem own_get (o : ByteArray) (k : Nat) (h : k < o.size) : o.data.toList[k]? = some o[k] := List.getElem?_eq_getElem (l := o.data.toList) h

theorem own_list (o : ByteArray) : o.data.toList.length = o.size := rfl

theorem own_two (o : ByteArray) (h : 1 < o.size) : ∃ t, o.data.toList = o[0] :: o[1] :: t := by
  have h0 := own_get o 0 (by omega)
  have h1 := own_get o 1 h
  generalize o.data.toList = l at *
  match l, h0, h1 with
  | a :: b :: t, h0, h1 =>
    simp at h0 h1
    exact ⟨t, by rw [h0, h1]⟩

theorem own_one (o : ByteArray) (h : 0 < o.size) : ∃ t, o.data.toList = o[0] :: t := by
  have h0 := own_get o 0 h
  generalize o.data.toList = l at *
  match l, h0 with
  | a :: t, h0 =>
    simp at h0
    exact ⟨t, by rw [h0]⟩

theorem ownB_16 (o : ByteArray) (h : 1 < o.size) (h0 : o[0] = 35) (h1 : o[1] = 120 ∨ o[1] = 88) : M2.ownB o.data.toList = M2.numR 16 6 (o.extract 2 o.size).data.toList := by
  obtain ⟨t, ht⟩ := own_two o h
  rw [extract_end, ht, M2.ownB, if_pos]
  rw [h0]
  rcases h1 with h1 | h1
  · left; rw [h1]; rfl
  · right; rw [h1]; rfl

theorem ownB_10 (o : ByteArray) (h : 1 < o.size) (h0 : o[0] = 35) (h1 : ¬ o[1] = 120) (h2 : ¬ o[1] = 88) : M2.ownB o.data.toList = M2.numR 10 7 (o.extract 1 o.size).data.toList := by
  obtain ⟨t, ht⟩ := own_two o h
  rw [extract_end, ht, M2.ownB, if_neg, if_pos]
  · rw [h0]; rfl
  · simp [h1, h2]

theorem ownB_10' (o : ByteArray) (h : o.size = 1) (h0 : o[0] = 35) : M2.ownB o.data.toList = M2.numR 10 7 (o.extract 1 o.size).data.toList := by
  obtain ⟨t, ht⟩ := own_one o (by omega)
  have hl := own_list o
  rw [ht] at hl
  have : t = [] := List.eq_nil_of_length_eq_zero (by simp at hl; omega)
  subst this
  rw [extract_end, ht, M2.ownB, if_neg (by simp), if_pos]
  rw [h0]; rfl

theorem ownB_nm (o : ByteArray) (h : 0 < o.size) (h0 : ¬ o[0] = 35) : M2.ownB o.data.toList = (M2.nm o.data.toList).map Int.ofNat := by
  obtain ⟨t, ht⟩ := own_one o h
  rw [ht, M2.ownB, if_neg, if_neg]
  · simp [h0]
  · cases t <;> simp [h0]

theorem ownB_nm0 (o : ByteArray) (h : o.size = 0) : M2.ownB o.data.toList = (M2.nm o.data.toList).map Int.ofNat := by
  have : o.data.toList = [] := List.eq_nil_of_length_eq_zero h
  rw [this]
  rfl

theorem byte_of {c : UInt8} {n : Nat} (h : (c.toNat : Int) = n) (hn : n < 256) : c = n.toUInt8 := by
  apply UInt8.toNat_inj.1
  rw [M1.toNat_u8 n hn]
  omega

theorem byte_no {c : UInt8} {n : Nat} (h : ¬ (c.toNat : Int) = n) (hn : n < 256) : ¬ c = n.toUInt8 := by
  rintro rfl
  rw [M1.toNat_u8 n hn] at h
  exact h rfl

/-- What is answered where the first ; is at place k. -/
def resI (k : Nat) : Option Int → Value
  | none => .tuple #[.int .i64 0, .int .i64 0]
  | some r => .tuple #[.int .i64 r, .int .i64 ((k : Int) + 1)]

end Go.Proofs.Yteefodibpjgicaa

/- The document's answers of layer 2, the rest: texts decoded, texts written. -/
namespace Go.Proofs.Yteefodibpjgicaa
open Go.RowKit

theorem cat_mk (a : List UInt8) (b : ByteArray) : (⟨a.toArray⟩ : ByteArray) ++ b = ⟨(a ++ b.data.toList).toArray⟩ := by
  apply ByteArray.ext
  simp

theorem str_val {a b : ByteArray} (h : a = b) : Value.string a = .string b := by rw [h]

theorem dec_step (l : List UInt8) (k : Nat) (h : k < l.length) : M2.decode (l.drop k) = match M2.one (l.drop k) with | none => l[k] :: M2.decode (l.drop (k + 1)) | some p => M1.enc p.1 ++ M2.decode (l.drop (k + p.2)) := by
  cases ho : M2.one (l.drop k) with
  | none =>
    have e : l.drop k = l[k] :: l.drop (k + 1) := List.drop_eq_getElem_cons h
    rw [e] at ho ⊢
    exact M2.decode_byte ho
  | some p =>
    obtain ⟨r, n⟩ := p
    rw [M2.decode_ref ho, List.drop_drop]

end Go.Proofs.Yteefodibpjgicaa

/- The reference of layer 5: bytes, a name, a word's place. -/
namespace Go.Proofs.Yteefodibpjgicaa
open Go.RowKit

def BoolPost (b : Bool) (w : World) (e : Ending) (w' : World) : Prop := e = .returned (.bool b) ∧ w = w'

theorem eqI (c d : UInt8) : (c == d) = ((c.toNat : Int) == (d.toNat : Int)) := by
  by_cases h : c = d
  · subst h; simp
  · rw [ne_byte h]; simp [h]

theorem at_data (s : ByteArray) (i : Nat) (h : i < s.size) : s.data.toList[i]? = some s[i] := by
  rw [List.getElem?_eq_getElem (by show i < s.data.toList.length; exact h)]
  rfl

theorem drop_cons (s : ByteArray) (i : Nat) (h : i < s.size) : s.data.toList.drop i = s[i] :: s.data.toList.drop (i + 1) := List.drop_eq_getElem_cons (l := s.data.toList) h

theorem drop_end (s : ByteArray) (i : Nat) (h : s.size ≤ i) : s.data.toList.drop i = [] := List.drop_of_length_le h

theorem rf_meas {n k : Nat} (h : k < n) : n - (intOf (.int .i64 ((k : Int) + 1))).toNat < n - (intOf (.int .i64 (k : Int))).toNat := by
  simp [intOf]; omega
/-! ### Where a word stands -/

theorem find_yes (wd l : List UInt8) (h : l.take wd.length = wd) (hw : 0 < wd.length) (hl : wd.length ≤ l.length) : M5.findL wd l = 0 := by
  cases l with
  | nil => have : wd.length ≤ 0 := hl; omega
  | cons c r =>
    rw [M5.findL, if_pos]
    rw [List.isPrefixOf_iff_prefix]
    exact ⟨(c :: r).drop wd.length, by conv => lhs; lhs; rw [← h]
                                       exact List.take_append_drop _ _⟩

theorem find_no (wd : List UInt8) (c : UInt8) (r : List UInt8) (h : (c :: r).take wd.length ≠ wd) : M5.findL wd (c :: r) = M5.findL wd r + 1 := by
  rw [M5.findL, if_neg]
  intro hp
  rw [List.isPrefixOf_iff_prefix] at hp
  obtain ⟨t, ht⟩ := hp
  exact h (by rw [← ht]; simp)

theorem find_short (wd l : List UInt8) (h : l.length < wd.length) : M5.findL wd l = l.length := by
  induction l with
  | nil => rfl
  | cons c r ih =>
    have : (c :: r).take wd.length ≠ wd := fun e => by
      have := congrArg List.length e
      rw [List.length_take] at this
      omega
    rw [find_no wd c r this, ih (by simp at h; omega)]
    rfl

def PosPost (n : Nat) (w : World) (e : Ending) (w' : World) : Prop := e = .returned (.int .i64 (n : Int)) ∧ w = w'

/-! ### A name -/

theorem span_step (p : UInt8 → Bool) (s : ByteArray) (i : Nat) (h : i < s.size) : M5.spanN p (s.data.toList.drop i) = if p s[i] then M5.spanN p (s.data.toList.drop (i + 1)) + 1 else 0 := by
  unfold M5.spanN
  rw [drop_cons s i h, List.takeWhile_cons]
  cases p s[i] <;> simp

theorem span_end (p : UInt8 → Bool) (s : ByteArray) (i : Nat) (h : s.size ≤ i) : M5.spanN p (s.data.toList.drop i) = 0 := by
  rw [drop_end s i h]; rfl

theorem span_bound (p : UInt8 → Bool) (s : ByteArray) (i : Nat) (h : i ≤ s.size) : i + M5.spanN p (s.data.toList.drop i) ≤ s.size := by
  have := M5.spanN_le p (s.data.toList.drop i)
  rw [List.length_drop] at this
  have h2 : s.data.toList.length = s.size := rfl
  omega

theorem extract_span (p : UInt8 → Bool) (s : ByteArray) (i : Nat) : (s.extract i (i + M5.spanN p (s.data.toList.drop i))).data.toList = (s.data.toList.drop i).takeWhile p := by
  rw [Lib.extract_data, ← M5.span_take]
  congr 1
  omega

def NamePost (nm : List UInt8) (n : Nat) (w : World) (e : Ending) (w' : World) : Prop := e = .returned (.tuple #[.string ⟨nm.toArray⟩, .int .i64 (n : Int)]) ∧ Below w.heap.size w w'

theorem eqN (c : UInt8) (d : UInt8) : ((c.toNat : Int) != (d.toNat : Int)) = !(c == d) := by rw [bne, ← eqI]

/-- What a text's attribute is, by places. -/
theorem drop_while (p : UInt8 → Bool) (l : List UInt8) (i : Nat) : (l.drop i).dropWhile p = l.drop (i + M5.spanN p (l.drop i)) := by
  rw [← M5.span_drop, List.drop_drop]

theorem take_while (p : UInt8 → Bool) (l : List UInt8) (i : Nat) : (l.drop i).takeWhile p = (l.drop i).take (M5.spanN p (l.drop i)) := (M5.span_take _ _).symm

def npB (c : UInt8) : Bool := !M5.stopB c

def nvB (c : UInt8) : Bool := !M5.blankB c && c != 62

theorem attr_bare (s : ByteArray) (at_ E I1 : Nat) (hE : E = at_ + M5.spanN npB (s.data.toList.drop at_)) (h1 : I1 = E + M5.spanN M5.blankB (s.data.toList.drop E)) (hI : I1 ≤ s.size) (hno : ∀ h : I1 < s.size, s[I1] ≠ 61) :
    M5.attrAt (s.data.toList.drop at_) = (⟨M5.bs (M1.fold ((s.data.toList.drop at_).take (E - at_))), ⟨#[]⟩⟩, s.data.toList.drop I1, true) := by
  have e1 : ((s.data.toList.drop at_).dropWhile fun c => !M5.stopB c).dropWhile M5.blankB = s.data.toList.drop I1 := by
    rw [show ((s.data.toList.drop at_).dropWhile fun c => !M5.stopB c) = (s.data.toList.drop at_).dropWhile npB from rfl, drop_while, ← hE, drop_while, ← h1]
  have e2 : ((s.data.toList.drop at_).takeWhile fun c => !M5.stopB c) = (s.data.toList.drop at_).take (E - at_) := by
    rw [show ((s.data.toList.drop at_).takeWhile fun c => !M5.stopB c) = (s.data.toList.drop at_).takeWhile npB from rfl, take_while]
    congr 1
    omega
  unfold M5.attrAt
  rw [e1, e2]
  by_cases h : I1 < s.size
  · rw [drop_cons s I1 h]
    have := hno h
    split
    · rename_i r he
      injection he with he1 _
      exact absurd he1 this
    · rfl
  · rw [drop_end s I1 (by omega)]

theorem attr_eq (s : ByteArray) (at_ E I1 : Nat) (hE : E = at_ + M5.spanN npB (s.data.toList.drop at_)) (h1 : I1 = E + M5.spanN M5.blankB (s.data.toList.drop E)) (h : I1 < s.size) (h61 : s[I1] = 61) :
    M5.attrAt (s.data.toList.drop at_) = M5.valueAt (M5.bs (M1.fold ((s.data.toList.drop at_).take (E - at_)))) (s.data.toList.drop (I1 + 1)) := by
  have e1 : ((s.data.toList.drop at_).dropWhile fun c => !M5.stopB c).dropWhile M5.blankB = s.data.toList.drop I1 := by
    rw [show ((s.data.toList.drop at_).dropWhile fun c => !M5.stopB c) = (s.data.toList.drop at_).dropWhile npB from rfl, drop_while, ← hE, drop_while, ← h1]
  have e2 : ((s.data.toList.drop at_).takeWhile fun c => !M5.stopB c) = (s.data.toList.drop at_).take (E - at_) := by
    rw [show ((s.data.toList.drop at_).takeWhile fun c => !M5.stopB c) = (s.data.toList.drop at_).takeWhile npB from rfl, take_while]
    congr 1
    omega
  unfold M5.attrAt
  rw [e1, e2, drop_cons s I1 h, h61]
  rfl

theorem value_end (s : ByteArray) (nm : ByteArray) (j I2 : Nat) (h2 : I2 = j + M5.spanN M5.blankB (s.data.toList.drop j)) (h : s.size ≤ I2) : M5.valueAt nm (s.data.toList.drop j) = (⟨nm, M5.bs (M2.decode [])⟩, [], true) := by
  unfold M5.valueAt
  rw [drop_while, ← h2, drop_end s I2 h]

theorem value_quote (s : ByteArray) (nm : ByteArray) (j I2 : Nat) (h2 : I2 = j + M5.spanN M5.blankB (s.data.toList.drop j)) (h : I2 < s.size) (hq : s[I2] = 34 ∨ s[I2] = 39) :
    M5.valueAt nm (s.data.toList.drop j) = if M5.findL [s[I2]] (s.data.toList.drop (I2 + 1)) < (s.data.toList.drop (I2 + 1)).length then (⟨nm, M5.bs (M2.decode ((s.data.toList.drop (I2 + 1)).take (M5.findL [s[I2]] (s.data.toList.drop (I2 + 1)))))⟩, (s.data.toList.drop (I2 + 1)).drop (M5.findL [s[I2]] (s.data.toList.drop (I2 + 1)) + 1), true) else (⟨nm, ⟨#[]⟩⟩, [], false) := by
  unfold M5.valueAt
  rw [drop_while, ← h2, drop_cons s I2 h]
  dsimp only
  rw [if_pos hq]

theorem value_bare (s : ByteArray) (nm : ByteArray) (j I2 : Nat) (h2 : I2 = j + M5.spanN M5.blankB (s.data.toList.drop j)) (h : I2 < s.size) (hq : ¬ (s[I2] = 34 ∨ s[I2] = 39)) :
    M5.valueAt nm (s.data.toList.drop j) = (⟨nm, M5.bs (M2.decode ((s.data.toList.drop I2).take (M5.spanN nvB (s.data.toList.drop I2))))⟩, s.data.toList.drop (I2 + M5.spanN nvB (s.data.toList.drop I2)), true) := by
  rw [← drop_while, ← take_while]
  unfold M5.valueAt
  rw [drop_while, ← h2, drop_cons s I2 h]
  dsimp only
  rw [if_neg hq]
  rfl

def AttPost (p : Att × List UInt8 × Bool) (n : Nat) (w : World) (e : Ending) (w' : World) : Prop := e = .returned (.tuple #[.agg #[.string p.1.name, .string p.1.value], .int .i64 ((n - p.2.1.length : Nat) : Int), .bool p.2.2]) ∧ Below w.heap.size w w'

theorem attPost_mk {l : List UInt8} {a : Att} {k : Nat} {ok : Bool} {p : Att × List UInt8 × Bool} {w w' : World} {e : Ending} (hp : p = (a, l.drop k, ok)) (hk : k ≤ l.length) (he : e = .returned (.tuple #[.agg #[.string a.name, .string a.value], .int .i64 (k : Int), .bool ok])) (hb : Below w.heap.size w w') : AttPost p l.length w e w' := by
  subst hp he
  refine ⟨?_, hb⟩
  rw [show (l.drop k).length = l.length - k from List.length_drop, show l.length - (l.length - k) = k by omega]

theorem Box.two {W : World} {g : Nat} {t : TypeId} {z0 z1 : Value} (h : Box W g t [z0, z1]) (c0 c1 : Value) : Box ((W.setCell ⟨g, 0, none⟩ c0).setCell ⟨g, 1, none⟩ c1) g t [c0, c1] := by
  have := (h.set 0 c0).set 1 c1
  simpa only [List.set_cons_succ, List.set_cons_zero] using this

theorem two_below {B : Nat} {a W : World} (h : Below B a W) {g : Nat} (c0 c1 : Value) (hg : B ≤ g) : Below B a ((W.setCell ⟨g, 0, none⟩ c0).setCell ⟨g, 1, none⟩ c1) :=
  (h.setCell (p := ⟨g, 0, none⟩) hg c0).setCell (p := ⟨g, 1, none⟩) hg c1

end Go.Proofs.Yteefodibpjgicaa

/- Reference 5: what stands up to a word. -/
namespace Go.Proofs.Yteefodibpjgicaa
open Go.RowKit

def UptoPost (p : List UInt8 × List UInt8) (n : Nat) (w : World) (e : Ending) (w' : World) : Prop := e = .returned (.tuple #[.string (M5.bs p.1), .int .i64 ((n - p.2.length : Nat) : Int)]) ∧ w = w'

theorem uptoPost_mk {l x : List UInt8} {k : Nat} {p : List UInt8 × List UInt8} {w w' : World} {e : Ending} {t : ByteArray} (hp : p = (x, l.drop k)) (hk : k ≤ l.length) (he : e = .returned (.tuple #[.string t, .int .i64 (k : Int)])) (ht : t = M5.bs x) (hb : w = w') : UptoPost p l.length w e w' := by
  subst hp he ht
  refine ⟨?_, hb⟩
  rw [show (l.drop k).length = l.length - k from List.length_drop, show l.length - (l.length - k) = k by omega]

theorem bs_cut (s : ByteArray) (a b : Nat) : s.extract a b = M5.bs ((s.data.toList.drop a).take (b - a)) := by
  apply ByteArray.ext
  apply Array.ext'
  rw [Lib.extract_data, M5.bs_data]

theorem find_fits (wd l : List UInt8) (hw : 0 < wd.length) (h : M5.findL wd l < l.length) : M5.findL wd l + wd.length ≤ l.length := by
  induction l with
  | nil => simp at h
  | cons c r ih =>
    by_cases he : (c :: r).take wd.length = wd
    · by_cases hl : wd.length ≤ (c :: r).length
      · rw [find_yes _ _ he hw hl]; omega
      · rw [find_short _ _ (by omega)] at h; omega
    · rw [find_no _ _ _ he] at h ⊢
      simp only [List.length_cons] at h ⊢
      have := ih (by omega)
      omega

end Go.Proofs.Yteefodibpjgicaa

/- Reference 5: where a raw element ends. -/
namespace Go.Proofs.Yteefodibpjgicaa
open Go.RowKit

def endV : Option Nat → Int
  | some k => (k : Int)
  | none => -1

def EndsPost (o : Option Nat) (w : World) (e : Ending) (w' : World) : Prop := e = .returned (.int .i64 (endV o)) ∧ Below w.heap.size w w'

def edgeB (d : UInt8) : Bool := M5.blankB d || d == 47 || d == 62

theorem ends_step (wd : List UInt8) (s : ByteArray) (i n : Nat) (hn : wd.length = n) (h : i + n < s.size) : M5.endsL wd (s.data.toList.drop i) = if (M1.fold ((s.data.toList.drop i).take n) == wd && edgeB s[i + n]) then some 0 else (M5.endsL wd (s.data.toList.drop (i + 1))).map (· + 1) := by
  subst hn
  have hd : (s.data.toList.drop i).drop wd.length = s[i + wd.length] :: s.data.toList.drop (i + wd.length + 1) := by
    rw [List.drop_drop]; exact drop_cons s _ h
  rw [drop_cons s i (by omega)] at hd ⊢
  rw [M5.endsL, hd]
  rfl

theorem ends_short (wd l : List UInt8) (h : l.length ≤ wd.length) : M5.endsL wd l = none := by
  induction l with
  | nil => rfl
  | cons c r ih =>
    rw [M5.endsL, List.drop_of_length_le h, ih (by simp only [List.length_cons] at h; omega)]
    simp

end Go.Proofs.Yteefodibpjgicaa

/- A word found in a text by how much of it stands right ahead: no program in it. -/
namespace Go.Proofs.Yteefodibpjgicaa.Kmp

def Low (u : List UInt8) : Prop := ∀ x ∈ u, M1.small x = x

/-- So many of the word's bytes stand right at the text's end, and no more. -/
def IsL (wd u : List UInt8) (h : Nat) : Prop := h ≤ wd.length ∧ wd.take h <:+ u ∧ ∀ k, k ≤ wd.length → wd.take k <:+ u → k ≤ h

def MB (wd : List UInt8) (j b : Nat) : Prop := b < j ∧ wd.take b <:+ wd.take j ∧ ∀ k, k < j → wd.take k <:+ wd.take j → k ≤ b

def Tab (wd : List UInt8) (bk : Nat → Nat) (M : Nat) : Prop := ∀ j, 1 ≤ j → j ≤ M → bk j < j ∧ (Low (wd.take j) → MB wd j (bk j))

def Cand (wd u : List UInt8) (c : UInt8) (h : Nat) : Prop := wd.take h <:+ u ∧ ∀ k, k ≤ wd.length → wd.take k <:+ u ++ [c] → k ≤ h + 1

theorem suf_snoc {a u : List UInt8} {x c : UInt8} (h : a ++ [x] <:+ u ++ [c]) : a <:+ u ∧ x = c := by
  obtain ⟨t, ht⟩ := h
  rw [← List.append_assoc] at ht
  have := List.append_inj' ht rfl
  exact ⟨⟨t, this.1⟩, by simpa using this.2⟩

theorem take_snoc (wd : List UInt8) (k : Nat) (h : k < wd.length) : wd.take (k + 1) = wd.take k ++ [wd[k]] := List.take_succ_eq_append_getElem h

theorem cand_of {wd u : List UInt8} {c : UInt8} {h : Nat} (hl : IsL wd u h) : Cand wd u c h := by
  refine ⟨hl.2.1, fun k hk hs => ?_⟩
  cases k with
  | zero => omega
  | succ k =>
    rw [take_snoc wd k (by omega)] at hs
    have := hl.2.2 k (by omega) (suf_snoc hs).1
    omega

theorem cand_hit {wd u : List UInt8} {c : UInt8} {h : Nat} (hc : Cand wd u c h) (hh : h < wd.length) (he : wd[h] = c) : IsL wd (u ++ [c]) (h + 1) := by
  refine ⟨hh, ?_, hc.2⟩
  rw [take_snoc wd h hh, he]
  obtain ⟨t, ht⟩ := hc.1
  exact ⟨t, by rw [← List.append_assoc, ht]⟩

theorem cand_zero {wd u : List UInt8} {c : UInt8} (hc : Cand wd u c 0) (hh : 0 < wd.length) (he : wd[0] ≠ c) : IsL wd (u ++ [c]) 0 := by
  refine ⟨Nat.zero_le _, ⟨u ++ [c], by simp⟩, fun k hk hs => ?_⟩
  have h1 := hc.2 k hk hs
  rcases Nat.lt_or_ge 0 k with h | h
  · obtain rfl : k = 1 := by omega
    rw [take_snoc wd 0 hh] at hs
    exact absurd (suf_snoc hs).2 he
  · exact h

theorem low_suf {a u : List UInt8} (h : a <:+ u) (hu : Low u) : Low a := fun x hx => hu x (h.subset hx)

theorem cand_miss {wd u : List UInt8} {c : UInt8} {h M : Nat} {bk : Nat → Nat} (hu : Low u) (ht : Tab wd bk M) (h1 : 1 ≤ h) (hM : h ≤ M) (hn : h ≤ wd.length) (hc : Cand wd u c h) (he : ∀ hh : h < wd.length, wd[h] ≠ c) : Cand wd u c (bk h) := by
  obtain ⟨hb1, hb2⟩ := ht h h1 hM
  obtain ⟨m1, m2, m3⟩ := hb2 (low_suf hc.1 hu)
  refine ⟨m2.trans hc.1, fun k hk hs => ?_⟩
  have h2 := hc.2 k hk hs
  cases k with
  | zero => omega
  | succ k =>
    rw [take_snoc wd k (by omega)] at hs
    obtain ⟨s1, s2⟩ := suf_snoc hs
    by_cases hkh : k = h
    · subst hkh
      exact absurd s2 (he (by omega))
    · have hlt : k < h := by omega
      have := m3 k hlt (List.suffix_of_suffix_length_le s1 hc.1 (by rw [List.length_take, List.length_take]; omega))
      omega

/-- What a step answers. -/
def Strides (wd : List UInt8) (h : Nat) (c : UInt8) (r : Nat) : Prop := r ≤ h + 1 ∧ r ≤ wd.length ∧ ∀ u, Low u → IsL wd u h → IsL wd (u ++ [M1.small c]) r

theorem isL_nil (wd : List UInt8) : IsL wd [] 0 := by
  refine ⟨Nat.zero_le _, ⟨[], by simp⟩, fun k hk hs => ?_⟩
  have := hs.length_le
  rw [List.length_take, List.length_nil] at this
  omega

/-- The table's first entry, and its next one. -/
theorem tab_one (wd : List UInt8) (bk : Nat → Nat) (h : bk 1 = 0) : Tab wd bk 1 := by
  intro j h1 h2
  obtain rfl : j = 1 := by omega
  rw [h]
  refine ⟨by omega, fun _ => ⟨by omega, ⟨wd.take 1, by simp⟩, fun k hk _ => by omega⟩⟩

theorem isL_mb {wd : List UInt8} {i b : Nat} (h1 : 1 ≤ i) (hi : i ≤ wd.length) (h : MB wd i b) : IsL wd ((wd.take i).drop 1) b := by
  have hlen : (wd.take i).length = i := by rw [List.length_take]; omega
  refine ⟨by have := h.1; omega, ?_, fun k hk hs => ?_⟩
  · refine List.suffix_of_suffix_length_le h.2.1 (List.drop_suffix 1 _) ?_
    rw [List.length_drop, hlen, List.length_take]
    have := h.1
    omega
  · have hl := hs.length_le
    rw [List.length_drop, hlen, List.length_take] at hl
    exact h.2.2 k (by omega) (hs.trans (List.drop_suffix 1 _))

theorem mb_isL {wd : List UInt8} {i b : Nat} (h1 : 1 ≤ i) (hi : i ≤ wd.length) (h : IsL wd ((wd.take i).drop 1) b) : MB wd i b := by
  have hlen : (wd.take i).length = i := by rw [List.length_take]; omega
  have hl := h.2.1.length_le
  rw [List.length_drop, hlen, List.length_take] at hl
  have hb := h.1
  refine ⟨by omega, h.2.1.trans (List.drop_suffix 1 _), fun k hk hs => ?_⟩
  refine h.2.2 k (by omega) (List.suffix_of_suffix_length_le hs (List.drop_suffix 1 _) ?_)
  rw [List.length_drop, hlen, List.length_take]
  omega

theorem tab_next {wd : List UInt8} {bk : Nat → Nat} {i : Nat} (h1 : 1 ≤ i) (hi : i < wd.length) (ht : Tab wd bk i) (r : Nat) (hr : Strides wd (bk i) wd[i] r) :
    Tab wd (fun j => if j = i + 1 then r else bk j) (i + 1) := by
  intro j j1 j2
  obtain ⟨t1, t2⟩ := ht i h1 (Nat.le_refl _)
  by_cases hj : j = i + 1
  · subst hj
    simp only [if_true]
    refine ⟨by have := hr.1; omega, fun hlow => ?_⟩
    have hlow1 : Low (wd.take i) := fun x hx => hlow x (by rw [take_snoc wd i hi]; exact List.mem_append_left _ hx)
    have hsm : M1.small wd[i] = wd[i] := hlow _ (by rw [take_snoc wd i hi]; exact List.mem_append_right _ (List.mem_singleton_self _))
    have hL := hr.2.2 _ (low_suf (List.drop_suffix 1 _) hlow1) (isL_mb h1 (by omega) (t2 hlow1))
    refine mb_isL (by omega) (by omega) ?_
    rw [hsm] at hL
    have e : (wd.take (i + 1)).drop 1 = (wd.take i).drop 1 ++ [wd[i]] := by
      rw [take_snoc wd i hi, List.drop_append_of_le_length (by rw [List.length_take]; omega)]
    rw [e]
    exact hL
  · simp only [if_neg hj]
    exact ht j j1 (by omega)

/-! ### Where a raw element ends -/

def Hit (wd l : List UInt8) (j : Nat) : Prop := M1.fold ((l.drop j).take wd.length) = wd ∧ ∃ h : j + wd.length < l.length, edgeB l[j + wd.length] = true

theorem ends_cons (wd : List UInt8) (c : UInt8) (r : List UInt8) : (Hit wd (c :: r) 0 → M5.endsL wd (c :: r) = some 0) ∧ (¬ Hit wd (c :: r) 0 → M5.endsL wd (c :: r) = (M5.endsL wd r).map (· + 1)) := by
  rw [M5.endsL]
  constructor
  · rintro ⟨h1, h2, h3⟩
    rw [Nat.zero_add] at h2
    have e : (c :: r).drop wd.length = (c :: r)[wd.length] :: (c :: r).drop (wd.length + 1) := List.drop_eq_getElem_cons h2
    rw [List.drop_zero] at h1
    rw [e, h1]
    have h3' : edgeB (c :: r)[wd.length] = true := by simpa using h3
    rw [if_pos]
    rw [beq_self_eq_true, Bool.true_and]
    exact h3'
  · intro h
    rw [if_neg]
    intro h'
    apply h
    rw [Bool.and_eq_true] at h'
    obtain ⟨h1, h2⟩ := h'
    refine ⟨by rw [List.drop_zero]; exact beq_iff_eq.1 h1, ?_⟩
    by_cases hl : wd.length < (c :: r).length
    · refine ⟨by rw [Nat.zero_add]; exact hl, ?_⟩
      have e : (c :: r).drop wd.length = (c :: r)[wd.length] :: (c :: r).drop (wd.length + 1) := List.drop_eq_getElem_cons hl
      rw [e] at h2
      have h2' : edgeB (c :: r)[wd.length] = true := h2
      simpa using h2'
    · rw [List.drop_of_length_le (by omega)] at h2
      cases h2

theorem hit_cons (wd : List UInt8) (c : UInt8) (r : List UInt8) (j : Nat) : Hit wd (c :: r) (j + 1) ↔ Hit wd r j := by
  unfold Hit
  rw [List.drop_succ_cons]
  constructor
  · rintro ⟨h1, h2, h3⟩
    have h2' : j + wd.length < r.length := by simp only [List.length_cons] at h2; omega
    refine ⟨h1, h2', ?_⟩
    have e : (c :: r)[j + 1 + wd.length] = r[j + wd.length] := by
      rw [List.getElem_cons]
      rw [dif_neg (by omega)]
      congr 1
      omega
    rw [← e]
    exact h3
  · rintro ⟨h1, h2, h3⟩
    have h2' : j + 1 + wd.length < (c :: r).length := by simp only [List.length_cons]; omega
    refine ⟨h1, h2', ?_⟩
    have e : (c :: r)[j + 1 + wd.length] = r[j + wd.length] := by
      rw [List.getElem_cons]
      rw [dif_neg (by omega)]
      congr 1
      omega
    rw [e]
    exact h3

theorem ends_some (wd : List UInt8) : ∀ (l : List UInt8) (j : Nat), Hit wd l j → (∀ k, k < j → ¬ Hit wd l k) → M5.endsL wd l = some j := by
  intro l
  induction l with
  | nil => intro j h; obtain ⟨_, h2, _⟩ := h; simp at h2
  | cons c r ih =>
    intro j h hn
    cases j with
    | zero => exact (ends_cons wd c r).1 h
    | succ j =>
      rw [(ends_cons wd c r).2 (hn 0 (by omega)), ih j ((hit_cons wd c r j).1 h) (fun k hk h' => hn (k + 1) (by omega) ((hit_cons wd c r k).2 h'))]
      rfl

theorem ends_none (wd : List UInt8) : ∀ (l : List UInt8), (∀ k, ¬ Hit wd l k) → M5.endsL wd l = none := by
  intro l
  induction l with
  | nil => intro _; rfl
  | cons c r ih =>
    intro hn
    rw [(ends_cons wd c r).2 (hn 0), ih (fun k h' => hn (k + 1) ((hit_cons wd c r k).2 h'))]
    rfl

/-- A whole word right ahead of a place. -/
theorem hit_iff {wd l : List UInt8} {i h : Nat} (hi : i < l.length) (hL : IsL wd (M1.fold (l.take i)) h) (hw : wd.length ≤ i) : Hit wd l (i - wd.length) ↔ (h = wd.length ∧ edgeB l[i] = true) := by
  have hfl : M1.fold (l.take i) = M1.fold (l.take (i - wd.length)) ++ M1.fold ((l.drop (i - wd.length)).take wd.length) := by
    unfold M1.fold
    rw [← List.map_append]
    congr 1
    have : l.take i = l.take ((i - wd.length) + wd.length) := by rw [Nat.sub_add_cancel hw]
    rw [this, List.take_add]
  have hx : M1.fold ((l.drop (i - wd.length)).take wd.length) = wd ↔ h = wd.length := by
    constructor
    · intro e
      have := hL.2.2 wd.length (Nat.le_refl _) (by rw [List.take_length, hfl, e]; exact ⟨_, rfl⟩)
      have := hL.1
      omega
    · intro e
      subst e
      have h2 := hL.2.1
      rw [List.take_length, hfl] at h2
      have hlen : (M1.fold ((l.drop (i - wd.length)).take wd.length)).length = wd.length := by
        unfold M1.fold
        rw [List.length_map, List.length_take, List.length_drop]
        omega
      obtain ⟨t, ht⟩ := h2
      exact (List.append_inj' ht (by rw [hlen])).2.symm
  unfold Hit
  rw [hx]
  constructor
  · rintro ⟨h1, h2, h3⟩
    refine ⟨h1, ?_⟩
    simpa [Nat.sub_add_cancel hw] using h3
  · rintro ⟨h1, h3⟩
    exact ⟨h1, by omega, by simpa [Nat.sub_add_cancel hw] using h3⟩

theorem fold_snoc (l : List UInt8) (i : Nat) (h : i < l.length) : M1.fold (l.take (i + 1)) = M1.fold (l.take i) ++ [M1.small l[i]] := by
  unfold M1.fold
  rw [List.take_succ_eq_append_getElem h, List.map_append]
  rfl

theorem low_fold (l : List UInt8) : Low (M1.fold l) := by
  intro x hx
  unfold M1.fold at hx
  obtain ⟨y, _, rfl⟩ := List.mem_map.1 hx
  exact M1.small_small y

end Go.Proofs.Yteefodibpjgicaa.Kmp

/- Tokens by definitions: a round of the program's loop. -/
namespace Go.Proofs.Yteefodibpjgicaa.M5

def keepT (t : Tok) : List Tok := if t.kind ≠ 0 then [t] else []
theorem endN_le (nm l : List UInt8) : endN nm l ≤ l.length := by
  unfold endN
  cases h : endsL ([60, 47] ++ nm) l with
  | none => exact Nat.le_refl _
  | some k =>
    show k ≤ l.length
    generalize [60, 47] ++ nm = wd at h
    induction l generalizing k with
    | nil => cases h
    | cons c r ih =>
      by_cases h0 : Kmp.Hit wd (c :: r) 0
      · rw [(Kmp.ends_cons wd c r).1 h0] at h
        cases h
        exact Nat.zero_le _
      · rw [(Kmp.ends_cons wd c r).2 h0] at h
        cases hr : endsL wd r with
        | none => rw [hr] at h; cases h
        | some j =>
          rw [hr] at h
          have := ih j hr
          have h' : j + 1 = k := by simpa using h
          simp only [List.length_cons]
          omega
theorem rawT_raw (t : Tok) (l : List UInt8) (h : t.kind = 1 ∧ M3.rawB t.name.data.toList = true) :
    rawT t l = (keepT (contC (endN t.name.data.toList l) l), l.drop (endN t.name.data.toList l)) := by
  rw [rawT, if_pos h]
  congr 1
  have hle := endN_le t.name.data.toList l
  generalize endN t.name.data.toList l = n at *
  unfold contC keepT asIs
  by_cases hz : n = 0
  · subst hz
    rw [if_pos rfl]
    rfl
  · rw [if_neg hz, if_neg, if_pos (show (3 : Int) ≠ 0 by decide)]
    rw [Bool.not_eq_true, List.isEmpty_eq_false_iff]
    intro e
    have := congrArg List.length e
    rw [List.length_take, List.length_nil] at this
    omega
theorem rawT_not (t : Tok) (l : List UInt8) (h : ¬ (t.kind = 1 ∧ M3.rawB t.name.data.toList = true)) : rawT t l = ([], l) := by rw [rawT, if_neg h]
theorem round_raw (l : List UInt8) (h : startsB l = true) (hr : (tagR l).1.kind = 1 ∧ M3.rawB (tagR l).1.name.data.toList = true) :
    toksR [] l = keepT (tagR l).1 ++ (keepT (contC (endN (tagR l).1.name.data.toList (tagR l).2) (tagR l).2) ++ toksR [] ((tagR l).2.drop (endN (tagR l).1.name.data.toList (tagR l).2))) := by
  rw [toks_tag l h, rawT_raw _ _ hr]
  rfl
theorem round_tag (l : List UInt8) (h : startsB l = true) (hr : ¬ ((tagR l).1.kind = 1 ∧ M3.rawB (tagR l).1.name.data.toList = true)) :
    toksR [] l = keepT (tagR l).1 ++ toksR [] (tagR l).2 := by
  rw [toks_tag l h, rawT_not _ _ hr, List.nil_append]
  rfl
end Go.Proofs.Yteefodibpjgicaa.M5

/- Layer 6 by plain definitions: nodes that are stable. No program in it. -/
namespace Go.Proofs.Yteefodibpjgicaa
namespace M6
open M3 (isText okP withText cat merge apart mayE oneE nilB)

def closedL (o : List UInt8) : List (List UInt8) :=
  if o = [112] then [[98, 108, 111, 99, 107, 113, 117, 111, 116, 101], [100, 105, 118], [104, 49], [104, 50], [104, 114], [108, 105], [111, 108], [112], [112, 114, 101], [116, 97, 98, 108, 101], [117, 108]]
  else if o = [108, 105] then [[108, 105]]
  else if o = [100, 116] ∨ o = [100, 100] then [[100, 100], [100, 116]]
  else if o = [111, 112, 116, 105, 111, 110] then [[111, 112, 116, 105, 111, 110]]
  else if o = [116, 100] then [[116, 100], [116, 114]]
  else if o = [116, 114] then [[116, 114]] else []
def closesB (o b : List UInt8) : Bool := (closedL o).contains b
/-- A text ends no raw element of that name ahead of its own end. -/
def endsHere (nm tx : List UInt8) : Bool := M5.endsL ([60, 47] ++ nm) (tx ++ ([60, 47] ++ nm ++ [62])) == some tx.length
def fitsB (p : ByteArray) (x : Nd) : Bool :=
  if M3.voidB p.data.toList then false else if M3.rawB p.data.toList then isText x && endsHere p.data.toList x.text.data.toList
  else !(decide (x.kind = 1) && closesB p.data.toList x.name.data.toList)
def hasB (w l : List UInt8) : Bool := decide (M5.findL w l < l.length)
/-- A comment that ends in itself. -/
def remB (x : Nd) : Bool := decide (x.kind = 3) && hasB [45, 45, 62] x.text.data.toList
def allB : List Nd → Bool
  | [] => true
  | .mk k n a t ks :: r => !remB (.mk k n a t ks) && (ks.all (fitsB n) && (allB ks && allB r))
termination_by l => SizeOf.sizeOf l
def oneS (x : Nd) : Bool := !remB x && (x.kids.all (fitsB x.name) && allB x.kids)
theorem allB_nil : allB [] = true := by rw [allB]
theorem allB_cons (x : Nd) (r : List Nd) : allB (x :: r) = (oneS x && allB r) := by
  cases x
  rw [allB]
  unfold oneS
  show (_ && (_ && (_ && _))) = ((_ && (_ && _)) && _)
  simp only [Bool.and_assoc]
  rfl
theorem allB_iff {l : List Nd} : allB l = true ↔ ∀ x ∈ l, oneS x = true := by
  induction l with
  | nil => rw [allB_nil]; exact ⟨fun _ x h => (nomatch h), fun _ => rfl⟩
  | cons x r ih => rw [allB_cons, Bool.and_eq_true, ih]; simp
def steadyQ : (Nd → Bool) → List Nd → List Nd
  | _, [] => []
  | q, .mk k n a t ks :: r =>
    (if (q (.mk k n a t ks) && !remB (.mk k n a t ks)) = true then [if k = 1 then .mk k n a t ((merge (steadyQ (fitsB n) ks)).filter (fitsB n)) else .mk k n a t ks] else []) ++ steadyQ q r
termination_by _ l => SizeOf.sizeOf l
theorem steadyQ_nil (q : Nd → Bool) : steadyQ q [] = [] := by rw [steadyQ]
/-- A node made steady. -/
def oneN (x : Nd) : Nd := if x.kind = 1 then .mk x.kind x.name x.attrs x.text ((merge (steadyQ (fitsB x.name) x.kids)).filter (fitsB x.name)) else x
theorem steadyQ_cons (q : Nd → Bool) (x : Nd) (r : List Nd) : steadyQ q (x :: r) = (if (q x && !remB x) = true then [oneN x] else []) ++ steadyQ q r := by
  cases x
  rw [steadyQ]
  rfl
def steady (l : List Nd) : List Nd := merge (steadyQ (fun _ => true) l)
/-- Those that fit first, then made steady: the same. -/
theorem steadyQ_filter (q : Nd → Bool) (l : List Nd) : steadyQ q l = steadyQ (fun _ => true) (l.filter q) := by
  induction l with
  | nil => rw [List.filter_nil, steadyQ_nil, steadyQ_nil]
  | cons x r ih =>
    rw [steadyQ_cons, ih]
    cases hq : q x
    · rw [List.filter_cons_of_neg (by rw [hq]; exact Bool.false_ne_true)]
      rfl
    · rw [List.filter_cons_of_pos hq, steadyQ_cons]
theorem oneN_kind (x : Nd) : (oneN x).kind = x.kind := by unfold oneN; split <;> rfl
theorem oneN_name (x : Nd) : (oneN x).name = x.name := by unfold oneN; split <;> rfl
theorem steady_from (q : Nd → Bool) (l : List Nd) : ∀ y ∈ steadyQ q l, ∃ x ∈ l, q x = true ∧ remB x = false ∧ y = oneN x := by
  induction l with
  | nil => intro y hy; rw [steadyQ_nil] at hy; exact (nomatch hy)
  | cons x r ih =>
    intro y hy
    rw [steadyQ_cons] at hy
    rcases List.mem_append.1 hy with hy | hy
    · split at hy
      · rename_i hc
        rw [Bool.and_eq_true] at hc
        rw [List.mem_singleton] at hy
        exact ⟨x, by simp, hc.1, by simpa using hc.2, hy⟩
      · exact (nomatch hy)
    · obtain ⟨z, h1, h2⟩ := ih y hy
      exact ⟨z, by simp [h1], h2⟩
theorem ok_of_may (l : List Nd) : ∀ p, mayE p l = 0 → (∀ x ∈ l, okP x) ∧ apart p l = true := by
  induction l with
  | nil => intro p _; exact ⟨fun x h => (nomatch h), rfl⟩
  | cons x r ih =>
    intro p h
    rw [M3.mayE_cons] at h
    by_cases h1 : oneE x p = 0
    · rw [if_neg (by simpa using h1)] at h
      by_cases h2 : mayE false x.kids = 0
      · rw [if_neg (by simpa using h2)] at h
        obtain ⟨i1, i2⟩ := ih _ h
        have key : okP x ∧ (isText x = true → nilB x.text = false ∧ p = false) := by
          unfold okP
          cases ht : isText x
          · have hk : ¬ x.kind = 2 := by simpa [isText] using ht
            refine ⟨?_, fun h => by cases h⟩
            rw [if_neg Bool.false_ne_true]
            refine ⟨?_, h2⟩
            unfold oneE at h1 ⊢
            rw [if_neg hk] at h1 ⊢
            exact h1
          · have hk : x.kind = 2 := by simpa [isText] using ht
            unfold oneE at h1
            rw [if_neg (by omega), if_pos hk] at h1
            split at h1
            · rename_i hp
              split at h1
              · rename_i hb
                rw [Bool.and_eq_true] at hb
                refine ⟨by rw [if_pos rfl]; exact ⟨hp, hb.1⟩, fun _ => ?_⟩
                have := hb.2
                revert this
                cases nilB x.text <;> cases p <;> simp
              · exact absurd h1 (by decide)
            · exact absurd h1 (by decide)
        refine ⟨fun y hy => ?_, M3.apart_iff.2 ⟨key.2, i2⟩⟩
        rcases List.mem_cons.1 hy with rfl | hy
        · exact key.1
        · exact i1 y hy
      · rw [if_pos (by simpa using h2)] at h
        exact absurd h h2
    · rw [if_pos (by simpa using h1)] at h
      exact absurd h h1
theorem oneS_cat (x y : Nd) (hx : oneS x = true) (h1 : isText x = true) : oneS (withText x (cat x.text y.text)) = true := by
  unfold oneS at *
  rw [Bool.and_eq_true] at hx ⊢
  refine ⟨?_, ?_⟩
  · have hk : x.kind = 2 := by simpa [isText] using h1
    unfold remB
    rw [show (withText x (cat x.text y.text)).kind = x.kind from by cases x; rfl, hk]
    rfl
  · have := hx.2
    cases x
    exact this
theorem apart_texts (l : List Nd) (f : Nd → Bool) (h : ∀ x ∈ l, isText x = true) (ha : apart false l = true) : apart false (l.filter f) = true := by
  match l, h, ha with
  | [], _, _ => rfl
  | [x], _, ha =>
    cases hf : f x
    · rw [List.filter_cons_of_neg (by rw [hf]; exact Bool.false_ne_true)]; rfl
    · rw [List.filter_cons_of_pos hf]; exact ha
  | x :: y :: r, h, ha =>
    have h1 := (M3.apart_iff.1 ha).2
    have h2 := (M3.apart_iff.1 h1).1 (h y (by simp))
    rw [h x (by simp)] at h2
    exact absurd h2.2 (by decide)
/-- What is left of an element's kids. -/
theorem kids_ok (n : ByteArray) (ks : List Nd) (h : ∀ y ∈ steadyQ (fitsB n) ks, okP y ∧ oneS y = true) :
    mayE false ((merge (steadyQ (fitsB n) ks)).filter (fitsB n)) = 0 ∧ ((merge (steadyQ (fitsB n) ks)).filter (fitsB n)).all (fitsB n) = true ∧ allB ((merge (steadyQ (fitsB n) ks)).filter (fitsB n)) = true := by
  have hm := M3.merge_all (P := fun x => okP x ∧ oneS x = true) (fun x y hx hy h1 h2 => ⟨M3.okP_cat x y hx.1 hy.1 h1 h2, oneS_cat x y hx.2 h1⟩) _ h
  have hap : apart false ((merge (steadyQ (fitsB n) ks)).filter (fitsB n)) = true := by
    have ha := M3.merge_apart' (steadyQ (fitsB n) ks)
    cases hv : M3.voidB n.data.toList
    · cases hr : M3.rawB n.data.toList
      · have hf : ∀ x ∈ merge (steadyQ (fitsB n) ks), fitsB n x = true := by
          refine M3.merge_all (P := fun x => fitsB n x = true) (fun x y hx _ h1 _ => ?_) _ (fun y hy => ?_)
          · unfold fitsB
            have hk : x.kind = 2 := by simpa [isText] using h1
            rw [hv, hr, if_neg Bool.false_ne_true, if_neg Bool.false_ne_true, show (withText x (cat x.text y.text)).kind = x.kind from by cases x; rfl, hk]
            rfl
          · obtain ⟨x, _, hq, _, rfl⟩ := steady_from _ _ y hy
            unfold fitsB at *
            rw [hv, hr, if_neg Bool.false_ne_true, if_neg Bool.false_ne_true] at *
            rw [oneN_kind, oneN_name]
            exact hq
        rw [List.filter_eq_self.2 hf]
        exact ha
      · refine apart_texts _ _ ?_ ha
        refine M3.merge_all (P := fun x => isText x = true) (fun x y hx _ h1 _ => ?_) _ (fun y hy => ?_)
        · cases x; exact hx
        · obtain ⟨x, _, hq, _, rfl⟩ := steady_from _ _ y hy
          unfold fitsB at hq
          rw [hv, hr, if_neg Bool.false_ne_true, if_pos rfl, Bool.and_eq_true] at hq
          unfold isText at *
          rw [oneN_kind]
          exact hq.1
    · have : (merge (steadyQ (fitsB n) ks)).filter (fitsB n) = [] := by
        rw [List.filter_eq_nil_iff]
        intro x _
        unfold fitsB
        rw [hv, if_pos rfl]
        exact Bool.false_ne_true
      rw [this]
      rfl
  refine ⟨M3.may_of_ok _ _ (fun x hx => (hm x (List.mem_filter.1 hx).1).1) hap, ?_, allB_iff.2 (fun x hx => (hm x (List.mem_filter.1 hx).1).2)⟩
  rw [List.all_eq_true]
  intro x hx
  exact (List.mem_filter.1 hx).2
theorem steady_ok (l : List Nd) : ∀ q, (∀ x ∈ l, okP x) → ∀ y ∈ steadyQ q l, okP y ∧ oneS y = true := by
  induction l using Nd.ind with
  | h0 => intro q _ y hy; rw [steadyQ_nil] at hy; exact (nomatch hy)
  | h1 k n a t ks r ih1 ih2 =>
    intro q h y hy
    rw [steadyQ_cons] at hy
    rcases List.mem_append.1 hy with hy | hy
    · have hx := h (.mk k n a t ks) (by simp)
      split at hy
      · rename_i hc
        rw [Bool.and_eq_true] at hc
        rw [List.mem_singleton] at hy
        have hrem : remB (.mk k n a t ks) = false := by simpa using hc.2
        unfold oneN at hy
        by_cases hk : k = 1
        · rw [if_pos (show (Nd.mk k n a t ks).kind = 1 from hk)] at hy
          have ht : isText (.mk k n a t ks) = false := by unfold isText; rw [show (Nd.mk k n a t ks).kind = k from rfl, hk]; rfl
          unfold okP at hx
          rw [ht, if_neg Bool.false_ne_true] at hx
          obtain ⟨x1, x2⟩ := hx
          have hks := (ok_of_may ks false x2).1
          obtain ⟨g1, g2, g3⟩ := kids_ok n ks (ih1 (fitsB n) hks)
          have hy : y = Nd.mk k n a t ((merge (steadyQ (fitsB n) ks)).filter (fitsB n)) := hy
          rw [hy]
          generalize (merge (steadyQ (fitsB n) ks)).filter (fitsB n) = K at *
          refine ⟨?_, ?_⟩
          · unfold okP
            rw [show isText (Nd.mk k n a t K) = false from ht, if_neg Bool.false_ne_true]
            refine ⟨?_, g1⟩
            unfold oneE at x1 ⊢
            rw [if_pos (show (Nd.mk k n a t ks).kind = 1 from hk)] at x1
            rw [if_pos (show (Nd.mk k n a t K).kind = 1 from hk)]
            exact x1
          · unfold oneS
            rw [Bool.and_eq_true, Bool.and_eq_true]
            refine ⟨?_, g2, g3⟩
            unfold remB
            show (!(decide (k = 3) && _)) = true
            rw [hk]
            rfl
        · rw [if_neg (show ¬ (Nd.mk k n a t ks).kind = 1 from hk)] at hy
          rw [hy]
          refine ⟨hx, ?_⟩
          have hks : ks = [] := by
            unfold okP at hx
            cases ht : isText (.mk k n a t ks)
            · rw [ht, if_neg Bool.false_ne_true] at hx
              have h2 : ¬ (Nd.mk k n a t ks).kind = 2 := by simpa [isText] using ht
              have h1 := hx.1
              unfold oneE at h1
              rw [if_neg (show ¬ (Nd.mk k n a t ks).kind = 1 from hk), if_neg (show ¬ (Nd.mk k n a t ks).kind = 2 from h2)] at h1
              split at h1
              · split at h1
                · rename_i hp
                  exact M3.plain_kids hp
                · exact absurd h1 (by decide)
              · exact absurd h1 (by decide)
            · rw [ht, if_pos rfl] at hx
              exact M3.plain_kids hx.1
          unfold oneS
          rw [hrem, show (Nd.mk k n a t ks).kids = [] from hks, allB_nil]
          rfl
      · exact (nomatch hy)
    · exact ih2 q (fun x hx => h x (by simp [hx])) y hy
/-- What is steady is stable. -/
theorem steady_stable (l : List Nd) (h : ∀ x ∈ l, okP x) : mayE false (steady l) = 0 ∧ allB (steady l) = true := by
  have h1 := steady_ok l (fun _ => true) h
  refine ⟨M3.may_merge _ (fun x hx => (h1 x hx).1), allB_iff.2 ?_⟩
  exact M3.merge_all (P := fun x => oneS x = true) (fun x y hx _ ht _ => oneS_cat x y hx ht) _ (fun x hx => (h1 x hx).2)
theorem merge_self {l : List Nd} (h : apart false l = true) : merge l = l := by
  have := M3.merge_apart l [] (fun y hy => by cases hy) h
  exact this
theorem steadyQ_self (l : List Nd) : ∀ (q : Nd → Bool) (p : Bool), (∀ x ∈ l, q x = true) → mayE p l = 0 → allB l = true → steadyQ q l = l := by
  induction l using Nd.ind with
  | h0 => intro q p _ _ _; exact steadyQ_nil q
  | h1 k n a t ks r ih1 ih2 =>
    intro q p hq hm ha
    rw [allB_cons, Bool.and_eq_true] at ha
    obtain ⟨ha1, ha2⟩ := ha
    unfold oneS at ha1
    rw [Bool.and_eq_true, Bool.and_eq_true] at ha1
    obtain ⟨hrem, hall, hak⟩ := ha1
    have hok := ok_of_may _ p hm
    have hr : mayE (k == 2) r = 0 := by
      rw [M3.mayE_cons] at hm
      by_cases h1 : oneE (.mk k n a t ks) p = 0
      · rw [if_neg (by simpa using h1)] at hm
        by_cases h2 : mayE false (Nd.mk k n a t ks).kids = 0
        · rw [if_neg (by simpa using h2)] at hm
          exact hm
        · rw [if_pos (by simpa using h2)] at hm
          exact absurd hm h2
      · rw [if_pos (by simpa using h1)] at hm
        exact absurd hm h1
    rw [steadyQ_cons, hq _ (by simp), hrem, if_pos (show (true && true) = true from rfl), ih2 q _ (fun x hx => hq x (by simp [hx])) hr ha2]
    show [oneN _] ++ r = _
    have hone : oneN (.mk k n a t ks) = .mk k n a t ks := by
      unfold oneN
      split
      · rename_i hk
        have hk : k = 1 := hk
        have hx := hok.1 (.mk k n a t ks) (by simp)
        have ht : isText (.mk k n a t ks) = false := by unfold isText; rw [show (Nd.mk k n a t ks).kind = k from rfl, hk]; rfl
        unfold okP at hx
        rw [ht, if_neg Bool.false_ne_true] at hx
        have hkm : mayE false ks = 0 := hx.2
        have hf : ∀ x ∈ ks, fitsB n x = true := List.all_eq_true.1 hall
        show Nd.mk k n a t ((merge (steadyQ (fitsB n) ks)).filter (fitsB n)) = _
        rw [ih1 (fitsB n) false hf hkm hak, merge_self (ok_of_may ks false hkm).2, List.filter_eq_self.2 hf]
      · rfl
    rw [hone]
    rfl
/-- Stable nodes are steady as they are. -/
theorem steady_self (l : List Nd) (h : mayE false l = 0) (ha : allB l = true) : steady l = l := by
  unfold steady
  rw [steadyQ_self l _ false (fun _ _ => rfl) h ha, merge_self (ok_of_may l false h).2]
/-! ### One by one -/
theorem apart_mem (l : List Nd) : ∀ p, apart p l = true → ∀ x ∈ l, isText x = true → nilB x.text = false := by
  induction l with
  | nil => intro p _ x h; exact (nomatch h)
  | cons y r ih =>
    intro p h x hx ht
    rw [M3.apart_iff] at h
    rcases List.mem_cons.1 hx with rfl | hx
    · exact (h.1 ht).1
    · exact ih _ h.2 x hx ht
theorem may_one {l : List Nd} (h : mayE false l = 0) {x : Nd} (hx : x ∈ l) : mayE false [x] = 0 := by
  obtain ⟨h1, h2⟩ := ok_of_may l false h
  refine M3.may_of_ok [x] false (fun y hy => ?_) (M3.apart_iff.2 ⟨fun ht => ⟨apart_mem l false h2 x hx ht, rfl⟩, rfl⟩)
  rw [List.mem_singleton] at hy
  subst hy
  exact h1 _ hx
theorem may_kids {l : List Nd} (h : mayE false l = 0) {x : Nd} (hx : x ∈ l) : mayE false x.kids = 0 := by
  have h1 := (ok_of_may l false h).1 x hx
  unfold okP at h1
  cases ht : isText x
  · rw [ht, if_neg Bool.false_ne_true] at h1
    exact h1.2
  · rw [ht, if_pos rfl] at h1
    rw [M3.plain_kids h1.1, M3.mayE_nil]
def stableB (l : List Nd) : Bool := decide (mayE false l = 0) && allB l
theorem stable_may {l : List Nd} (h : mayE false l = 0) : stableB l = allB l := by
  unfold stableB
  rw [decide_eq_true h, Bool.true_and]
theorem stable_parts {l : List Nd} (h : mayE false l = 0) : stableB l = l.all (fun x => stableB [x]) := by
  rw [stable_may h, Bool.eq_iff_iff, allB_iff, List.all_eq_true]
  refine ⟨fun h1 x hx => ?_, fun h1 x hx => ?_⟩
  · rw [stable_may (may_one h hx), allB_cons, h1 x hx, allB_nil]
    rfl
  · have := h1 x hx
    rw [stable_may (may_one h hx), allB_cons, allB_nil, Bool.and_true] at this
    exact this
theorem stable_one {l : List Nd} (h : mayE false l = 0) {x : Nd} (hx : x ∈ l) (h1 : stableB [x] = true) : stableB x.kids = true ∧ x.kids.all (fitsB x.name) = true := by
  rw [stable_may (may_one h hx), allB_cons, allB_nil, Bool.and_true] at h1
  unfold oneS at h1
  rw [Bool.and_eq_true, Bool.and_eq_true] at h1
  exact ⟨by rw [stable_may (may_kids h hx)]; exact h1.2.2, h1.2.1⟩
theorem fits_div {x : Nd} (h : ¬ x.kind = 1) : fitsB ⟨#[100, 105, 118]⟩ x = true := by
  unfold fitsB
  rw [show M3.voidB (⟨#[100, 105, 118]⟩ : ByteArray).data.toList = false by decide, show M3.rawB (⟨#[100, 105, 118]⟩ : ByteArray).data.toList = false by decide, if_neg Bool.false_ne_true, if_neg Bool.false_ne_true, decide_eq_false h]
  rfl
theorem fits_br (x : Nd) : fitsB ⟨#[98, 114]⟩ x = false := by
  unfold fitsB
  rw [show M3.voidB (⟨#[98, 114]⟩ : ByteArray).data.toList = true by decide, if_pos rfl]
theorem fits_style {x : Nd} (h : ¬ x.kind = 2) : fitsB ⟨#[115, 116, 121, 108, 101]⟩ x = false := by
  unfold fitsB
  rw [show M3.voidB (⟨#[115, 116, 121, 108, 101]⟩ : ByteArray).data.toList = false by decide, show M3.rawB (⟨#[115, 116, 121, 108, 101]⟩ : ByteArray).data.toList = true by decide, if_neg Bool.false_ne_true, if_pos rfl, show isText x = false by simpa [isText] using h]
  rfl
theorem fits_p {x : Nd} (h : x.kind = 1) : fitsB ⟨#[112]⟩ x = !closesB [112] x.name.data.toList := by
  unfold fitsB
  rw [show M3.voidB (⟨#[112]⟩ : ByteArray).data.toList = false by decide, show M3.rawB (⟨#[112]⟩ : ByteArray).data.toList = false by decide, if_neg Bool.false_ne_true, if_neg Bool.false_ne_true, decide_eq_true h]
  rfl
end M6
end Go.Proofs.Yteefodibpjgicaa

/- Package utf's functions: what each call gives, for any bytes. -/
namespace Go.Proofs.Yteefodibpjgicaa
open Go.RowKit

theorem info32 : (Try.prog.info? 21).map (fun i => (i.zero, i.size, i.bytes)) = some (some (.int .i32 0), 1, 4) := by kernel_rfl

/-- 'next' on a text, by lists. -/
theorem next_dec {P : Program} (w : World) (k : Nat) (s : ByteArray) (pos : Nat) (hk : w.heap[k]? = some (.stringIter s pos)) (h : pos < s.size) : ∀ ty,
    (Instr.next (.pointer (some ⟨k, 0, none⟩)) true ty).run P w =
      .ok (.tuple #[.bool true, .int .i64 pos, .int .i32 (M1.dec (s.data.toList.drop pos)).1]) (w.iterAt k s (pos + (M1.dec (s.data.toList.drop pos)).2)) := fun ty => by
  rw [Lib.run_next_any_at w k s pos ty hk h, M1.decode_eq]

theorem drop_ne {l : List UInt8} {k : Nat} (h : k < l.length) : l.drop k ≠ [] := by
  intro e
  have := congrArg List.length e
  simp at this
  omega

/-- Does the text begin with the form of 65533? -/
def spelt3 (s : ByteArray) : Bool := s.data.toList.take 3 == [239, 191, 189]


end Go.Proofs.Yteefodibpjgicaa

/- Contracts of the library's shelf, laid in plain words (lay-plain.mjs), this program's numbers by name. -/
namespace Go.Proofs.Yteefodibpjgicaa
open Go.Shelf
end Go.Proofs.Yteefodibpjgicaa

/- Package dom's small functions: names, kinds, attributes. -/
namespace Go.Proofs.Yteefodibpjgicaa
open Go.RowKit

set_option maxHeartbeats 1000000 in
theorem domVoid (s : ByteArray) (w : World) : Calls Try.prog 38 #[.string s] w fun e w' => e = .returned (.bool (M3.voidB s.data.toList)) ∧ w' = w := by
  rw [← Lib.toList_data]
  go_enter Try.func38, Try.ntmps38
  go_wp2
  all_goals (go_ret; refine ⟨?_, rfl⟩; unfold M3.voidB; simp_all)

set_option maxHeartbeats 1000000 in
theorem ref03Void (s : ByteArray) (w : World) : Calls Try.prog 20 #[.string s] w fun e w' => e = .returned (.bool (M3.voidB s.data.toList)) ∧ w' = w := by
  rw [← Lib.toList_data]
  go_enter Try.func20, Try.ntmps20
  go_wp2
  all_goals (go_ret; refine ⟨?_, rfl⟩; unfold M3.voidB; simp_all)


end Go.Proofs.Yteefodibpjgicaa

/- Characters that stand in a row of plain ones. -/
namespace Go.Proofs.Yteefodibpjgicaa
namespace M3
abbrev C7 : List UInt8 := [9, 10, 12, 32, 47, 62, 61]
theorem badB_eq (c : UInt8) : badB c = C7.contains c := by
  have e : ∀ (n : Nat) (h : n < 256), (c.toNat == n) = (c == n.toUInt8) := by
    intro n h
    rw [Bool.eq_iff_iff, beq_iff_eq, beq_iff_eq]
    constructor
    · intro h1; rw [← h1]; simp
    · rintro rfl; exact M1.toNat_u8 n h
  unfold badB
  rw [e 9 (by decide), e 10 (by decide), e 12 (by decide), e 32 (by decide), e 47 (by decide), e 62 (by decide), e 61 (by decide)]
  simp only [C7, List.contains_cons, List.contains_nil, Bool.or_false, Bool.or_assoc]
  rfl
theorem badB_high (c : UInt8) (h : 128 ≤ c.toNat) : badB c = false := by
  unfold badB
  simp
  omega
theorem high_skip (c : UInt8) (t : List UInt8) (h : 128 ≤ c.toNat) : ∀ x ∈ (c :: t).take (M1.dec (c :: t)).2, 128 ≤ x.toNat := by
  have hd := M2.dec_hi c t h
  rcases M1.dec_cases (c :: t) (by simp) with ⟨h1, h2, h3⟩ | ⟨h1, _⟩
  · intro x hx
    rw [h2, h3] at hx
    rw [List.take_left'] at hx
    · exact M2.enc_high _ h1 (by omega) x hx
    · rw [← h3, ← h2]
  · rw [h1]
    intro x hx
    simp at hx
    subst hx; exact h
theorem any_skip (c : UInt8) (t : List UInt8) (h : 128 ≤ c.toNat) : (c :: t).any badB = ((c :: t).drop (M1.dec (c :: t)).2).any badB := by
  conv => lhs; rw [← List.take_append_drop (M1.dec (c :: t)).2 (c :: t), List.any_append]
  have : ((c :: t).take (M1.dec (c :: t)).2).any badB = false := by
    rw [List.any_eq_false]
    intro x hx
    rw [badB_high x (high_skip c t h x hx)]
    simp
  rw [this, Bool.false_or]
theorem indexAny_bad (l : List UInt8) : decide (0 ≤ Lib.indexAny l C7) = l.any badB := by
  induction l with
  | nil => rfl
  | cons c r ih =>
    have hge := Lib.indexAny_ge C7 r
    rw [Lib.indexAny, List.any_cons, badB_eq, ← ih]
    cases hc : C7.contains c
    · simp only [Bool.false_or, Bool.false_eq_true, if_false, beq_iff_eq]
      split
      · rename_i h; rw [h]
      · congr 1; exact propext (by omega)
    · simp
theorem small_cap (c : UInt8) : (M1.small c == c) = !capB c := by
  have h := M1.small_nat c
  by_cases hc : 65 ≤ c.toNat ∧ c.toNat ≤ 90
  · rw [if_pos hc] at h
    have h1 : capB c = true := decide_eq_true hc
    rw [h1]
    simp only [Bool.not_true, beq_eq_false_iff_ne, ne_eq]
    intro e; rw [e] at h; omega
  · have h1 : capB c = false := decide_eq_false hc
    rw [h1]
    simp only [Bool.not_false, beq_iff_eq]
    unfold M1.small
    rw [if_neg hc]
theorem fold_same (l : List UInt8) : (M1.fold l == l) = !(l.any capB) := by
  induction l with
  | nil => rfl
  | cons c r ih =>
    show (M1.small c :: M1.fold r == c :: r) = _
    rw [List.cons_beq_cons, ih, small_cap, List.any_cons, Bool.not_or]
end M3
end Go.Proofs.Yteefodibpjgicaa

/- Attributes' names: strings.ContainsAny at the signs that may not be, for every text; and the reference's own way. -/
namespace Go.Proofs.Yteefodibpjgicaa
open Go.RowKit

abbrev c7 : ByteArray := ⟨#[9, 10, 12, 32, 47, 62, 61]⟩

/-- A character beyond the plain ones is two, three or four bytes, each of them beyond them. -/
theorem encode_high (r : Int) (h0 : 128 ≤ r) (h1 : r ≤ 1114111) (hs : r < 55296 ∨ 57343 < r) :
    (∃ a b : UInt8, Utf8.encode r = ⟨#[a, b]⟩ ∧ 128 ≤ b.toNat) ∨ (∃ a b c : UInt8, Utf8.encode r = ⟨#[a, b, c]⟩ ∧ 128 ≤ c.toNat) ∨ (∃ a b c d : UInt8, Utf8.encode r = ⟨#[a, b, c, d]⟩ ∧ 128 ≤ d.toNat) := by
  have hv : Utf8.valid r = true := by rw [M1.valid_iff]; exact decide_eq_true (by unfold M1.okRune; omega)
  unfold Utf8.encode
  simp only [hv, if_true]
  obtain ⟨n, rfl⟩ := Int.eq_ofNat_of_zero_le (show 0 ≤ r by omega)
  simp only [Int.toNat_natCast]
  rw [if_neg (by omega)]
  split
  · exact Or.inl ⟨_, _, rfl, by rw [M1.toNat_u8 _ (by omega)]; omega⟩
  split
  · exact Or.inr (Or.inl ⟨_, _, _, rfl, by rw [M1.toNat_u8 _ (by omega)]; omega⟩)
  · exact Or.inr (Or.inr ⟨_, _, _, _, rfl, by rw [M1.toNat_u8 _ (by omega)]; omega⟩)


end Go.Proofs.Yteefodibpjgicaa

/- strings.ContainsAny at the seven signs; attributes' names; the reference's names. -/
namespace Go.Proofs.Yteefodibpjgicaa
open Go.RowKit

def AnyPost (l : List UInt8) (w : World) (e : Ending) (w' : World) : Prop := ∃ z : Int, e = .returned (.int .i64 z) ∧ decide (0 ≤ z) = l.any M3.badB ∧ Below w.heap.size w w'

def restB (l : List UInt8) : Bool := !(l.any M3.capB) && !(l.any M3.badB)
theorem restB_drop (s : ByteArray) (i : Nat) (h : i < s.size) : restB (s.data.toList.drop i) = (!(M3.capB s[i]) && !(M3.badB s[i]) && restB (s.data.toList.drop (i + 1))) := by
  have hsz : s.size = s.data.toList.length := rfl
  unfold restB
  rw [List.drop_eq_getElem_cons (show i < s.data.toList.length by omega), List.any_cons, List.any_cons]
  show (!(M3.capB s[i] || _) && !(M3.badB s[i] || _)) = _
  cases M3.capB s[i] <;> cases M3.badB s[i] <;> simp


end Go.Proofs.Yteefodibpjgicaa

/- A node's own error by its fields; more plain facts on nodes. -/
namespace Go.Proofs.Yteefodibpjgicaa
namespace M3
/-! ### The fields, one by one -/
def plainF (n : ByteArray) (ats : List Att) (ks : List Nd) : Bool := nilB n && ats.isEmpty && ks.isEmpty
def kindlyF (k : Int) (n : ByteArray) (ats : List Att) (t : ByteArray) (ks : List Nd) : Bool := if k = 1 then nilB t else if k = 2 ∨ k = 3 then plainF n ats ks else false
def elemF (n : ByteArray) (ats : List Att) : Int := if namedB n.data.toList then (if namesE [] ats = 0 then valuesE ats else namesE [] ats) else 4
def oneF (k : Int) (n : ByteArray) (ats : List Att) (t : ByteArray) (ks : List Nd) (p : Bool) : Int :=
  if kindlyF k n ats t ks then (if k = 1 then elemF n ats else if M1.isB t.data.toList && !(decide (k = 2) && (nilB t || p)) then 0 else 2) else 7
theorem oneE_mk (k : Int) (n : ByteArray) (ats : List Att) (t : ByteArray) (ks : List Nd) (p : Bool) : oneE (.mk k n ats t ks) p = oneF k n ats t ks p := by
  unfold oneE oneF kindlyF
  show (if k = 1 then elemE _ else if k = 2 then (if plainF n ats ks then (if M1.isB t.data.toList && !(nilB t || p) then 0 else 2) else 7) else if k = 3 then (if plainF n ats ks then (if M1.isB t.data.toList then 0 else 2) else 7) else 7) = _
  by_cases h1 : k = 1
  · rw [if_pos h1, if_pos h1, if_pos h1]
    rfl
  by_cases h2 : k = 2
  · rw [if_neg h1, if_pos h2, if_neg h1, if_pos (Or.inl h2), if_neg h1, decide_eq_true h2, Bool.true_and]
  by_cases h3 : k = 3
  · rw [if_neg h1, if_neg h2, if_pos h3, if_neg h1, if_pos (Or.inr h3), if_neg h1, decide_eq_false h2, Bool.false_and, Bool.not_false, Bool.and_true]
  · have hno : ¬ (k = 2 ∨ k = 3) := fun h => h.elim h2 h3
    rw [if_neg h1, if_neg h2, if_neg h3, if_neg h1, if_neg hno]
    rfl
end M3
end Go.Proofs.Yteefodibpjgicaa

/- A map that a call makes by a literal: the insertion at the operation; a look-up with 'ok'; what a row of insertions holds. -/
namespace Go.Proofs.Yteefodibpjgicaa
open Go.RowKit Go.Maps Go.WideShapes
variable {H : Type}

/-- A map literal's next entry, at the operation. -/
theorem wpList_insert_own {P : Program} (w : World) {ops : Array Oper} {rest : List Oper} {o : Oper} {a : Act} {Q : Exit → Act → World → Prop}
    (hg : o.guard = none) (m x v : Operand) (t : TypeId) (hop : o.op = Op.insert t m x v)
    (k e : TypeId) (K : Keyed P k) (ht : P.underlying t = some (.map k e)) (R : Value → Option (DataW H × List MemPlace)) (b n : Nat) (D : DataW H)
    (hm : a.eval m = .map (some b)) (hown : w.ownsMap P k R b n D) (hn : n < maxLen) (key val : Value) (kl : Lit) (hx : a.eval x = key) (hv : a.eval v = val) (hkey : keyOf P k key = some kl)
    (d : DataW H) (ps : List MemPlace) (hval : R val = some (d, ps))
    (hK : ∀ w', w'.ownsMap P k R b (n + 1) (D.put kl d) → w.grownBy w' (some b) → wpList P ops Q rest (a.put o.dst undef) w') :
    wpList P ops Q (o :: rest) a w := by
  refine wpList_plain hg fun K' hK' => ?_
  obtain ⟨w', hrun, r1, r2⟩ := hown.update K ht hn hkey hval
  unfold Oper.wp
  simp [execOp, hop, hm, hx, hv, hrun, Result.andThen]
  exact hK' _ _ (hK w' r1 r2)

/-- The datum that a row of pairs makes, put in one by one (a later one wins). -/
def rowD (l : List (Lit × DataW H)) (D : DataW H) : DataW H := l.foldl (fun D p => D.put p.1 p.2) D
theorem rowD_isMap : ∀ (l : List (Lit × DataW H)) (D : DataW H), IsMap D → IsMap (rowD l D)
  | [], _, h => h
  | p :: l, _, h => rowD_isMap l _ (h.put p.1 p.2)
theorem rowD_has : ∀ (l : List (Lit × DataW H)) (D : DataW H) (k : Lit), IsMap D → (∀ p ∈ l, WideAt.IsKeyLit p.1) → Maps.has (rowD l D) k = (l.any (fun p => p.1.sameKey k) || Maps.has D k)
  | [], _, _, _, _ => by simp [rowD]
  | p :: l, D, k, h, hk => by
    have ih := rowD_has l (D.put p.1 p.2) k (h.put _ _) (fun q hq => hk q (by simp [hq]))
    show Maps.has (rowD l (D.put p.1 p.2)) k = _
    rw [ih, List.any_cons]
    by_cases e : p.1 = k
    · subst e
      rw [has_put_same h (hk p (by simp)), WideAt.sameKey_self (hk p (by simp))]
      simp
    · rw [has_put_other (fun h => e h.symm), sameKey_ne e]
      simp
theorem rowD_other : ∀ (l : List (Lit × DataW H)) (D z : DataW H) (k : Lit), (∀ p ∈ l, p.1 ≠ k) → (rowD l D).atKey k z = D.atKey k z
  | [], _, _, _, _ => rfl
  | p :: l, D, z, k, h => by
    show (rowD l (D.put p.1 p.2)).atKey k z = _
    rw [rowD_other l _ z k (fun q hq => h q (by simp [hq])), atKey_put_other (fun e => h p (by simp) e.symm)]
theorem rowD_at : ∀ (l : List (Lit × DataW H)) (D z : DataW H) (p : Lit × DataW H), IsMap D → (∀ p ∈ l, WideAt.IsKeyLit p.1) → l.Pairwise (fun p q => p.1 ≠ q.1) → p ∈ l → (rowD l D).atKey p.1 z = p.2
  | [], _, _, _, _, _, _, hp => by simp at hp
  | q :: l, D, z, p, h, hk, hd, hp => by
    obtain ⟨h1, h2⟩ := List.pairwise_cons.1 hd
    show (rowD l (D.put q.1 q.2)).atKey p.1 z = _
    rcases List.mem_cons.1 hp with rfl | hp
    · rw [rowD_other l _ z _ (fun q hq e => h1 q hq e.symm), atKey_put_same h (hk _ (by simp))]
    · exact rowD_at l _ z p (h.put _ _) (fun q hq => hk q (by simp [hq])) h2 hp
theorem ownsMap_below {P : Program} {k : TypeId} {R : Value → Option (DataW H × List MemPlace)} {w w' : World} {b n : Nat} {D : DataW H} (h : w.ownsMap P k R b n D) (hb : Below w.heap.size w w') : w'.ownsMap P k R b n D :=
  h.kept (row := none) ⟨hb.os, hb.tape, hb.output, hb.size, fun k hk _ => hb.block k hk⟩ (by simp)

/-- 'v, ok := m[k]' of a map to numbers: an equation for the walk. -/
theorem look_ok_int {P : Program} {w : World} {b n : Nat} {D : DataW H} {t k e : TypeId} {q : IntKind} (h : w.ownsMap P k (plainElem P e) b n D) (K : Keyed P k) (ht : P.underlying t = some (.map k e)) (he : P.underlying e = some (.int q))
    (hz : (zeroValue e).run P w = .ok (.int q 0) w) {key : Value} {kl : Lit} (hkey : keyOf P k key = some kl) {c : Int} (hc : D.atKey kl (.lit (.int q 0)) = .lit (.int q c)) :
    (Instr.lookup t (.map (some b)) key true).run P w = .ok (.tuple #[.int q c, .bool (Maps.has D kl)]) w := by
  have hw0 : (Lit.int q 0).wf = true := by cases q <;> decide
  obtain ⟨v, ps, hrun, hv⟩ := h.look_ok K ht hz (plainElem_int he hw0) hkey
  obtain ⟨c', rfl, h2, _⟩ := plainElem_int_inv he hv
  simp only [Prod.mk.injEq] at h2
  rw [h2.1] at hc
  cases hc
  exact hrun
end Go.Proofs.Yteefodibpjgicaa

/- Package dom: an attribute's value, attributes' names, an element's own error, a node's own error. -/
namespace Go.Proofs.Yteefodibpjgicaa
open Go.RowKit Go.Maps Go.WideShapes

theorem Row.below {S : Nat → Prop} {w w' : World} {B k n : Nat} {v : Value} {xs : List Value} (h : Row S w k v n xs) (hS : ∀ b, S b → b < B) (hb : Below B w w') : Row S w' k v n xs := h.keep fun b h => hb.block b (hS b h)
theorem RepN.below {S : Nat → Prop} {w w' : World} {B : Nat} {v : Value} {l : List Nd} (h : RepN S w v l) (hS : ∀ b, S b → b < B) (hb : Below B w w') : RepN S w' v l := h.keep fun b h => hb.block b (hS b h)
theorem RepV.below {S : Nat → Prop} {w w' : World} {B : Nat} {x : Nd} {va vk : Value} (h : RepV S w x va vk) (hS : ∀ b, S b → b < B) (hb : Below B w w') : RepV S w' x va vk := h.keep fun b h => hb.block b (hS b h)
theorem run_makeMap_hint {P : Program} (t k e : TypeId) (kd : IntKind) (n : Int) (ht : P.underlying t = some (.map k e)) (w : World) :
    (Instr.makeMap t (some (.int kd n))).run P w = .ok (.map (some w.heap.size)) (w.alloc (.map #[] 0)) := by
  simp [Instr.makeMap, run_underlying ht]; rfl

def valAns (o : Option ByteArray) : Value := .tuple #[.string (o.getD ⟨#[]⟩), .bool o.isSome]

/-! ### A node's own error -/
def Fit1 (x : Nd) : Prop := x.name.size ≤ 268435456 ∧ x.text.size ≤ 268435456 ∧ (∀ a ∈ x.attrs, a.name.size ≤ 268435456 ∧ a.value.size ≤ 268435456) ∧ 1 + x.attrs.length + M3.weight x.kids ≤ 1000000


end Go.Proofs.Yteefodibpjgicaa

/- Package dom and the reference: an element's error, a node's error. -/
namespace Go.Proofs.Yteefodibpjgicaa
open Go.RowKit Go.Maps Go.WideShapes

theorem Fit1.attr {x : Nd} (h : Fit1 x) : ∀ a ∈ x.attrs, a.name.size ≤ 268435456 := fun a ha => (h.2.2.1 a ha).1


end Go.Proofs.Yteefodibpjgicaa

/- Package dom: all nodes told one by one: 'tell' hands its yield down; 'each' is what a loop ranges over. -/
namespace Go.Proofs.Yteefodibpjgicaa
open Go.RowKit Go.Shelf

attribute [local go_sem] Oper.semAt_some

/-- What a round is handed: a node as it lies in memory, and the Kind of the one ahead of it. -/
structure It (S : Nat → Prop) (w0 : World) where
  x : Nd
  ah : Int
  va : Value
  vk : Value
  rep : RepV S w0 x va vk
  fit : Fit1 x
def It.args {S : Nat → Prop} {w0 : World} (t : It S w0) : Array Value := #[t.x.val t.va t.vk, .int .i64 t.ah]
abbrev It.pair {S : Nat → Prop} {w0 : World} (t : It S w0) : Nd × Int := (t.x, t.ah)

/-- T is the row of all nodes of l, whose cells are xs. -/
def Tells (S : Nat → Prop) (w0 : World) : Int → List Value → List Nd → List (It S w0) → Prop
  | _, xs, [], T => xs = [] ∧ T = []
  | a, xs, .mk k n ats t ks :: r, T => ∃ (i : It S w0) (zs ys : List Value) (T1 T2 : List (It S w0)), i.x = .mk k n ats t ks ∧ i.ah = a ∧ xs = i.x.cells i.va i.vk ++ ys ∧ Row S w0 5 i.vk ks.length zs ∧ T = i :: (T1 ++ T2) ∧ Tells S w0 0 zs ks T1 ∧ Tells S w0 k ys r T2
termination_by _ _ l _ => SizeOf.sizeOf l
theorem Tells.cons_iff {S : Nat → Prop} {w0 : World} {a : Int} {xs : List Value} {x : Nd} {r : List Nd} {T : List (It S w0)} :
    Tells S w0 a xs (x :: r) T ↔ ∃ (i : It S w0) (zs ys : List Value) (T1 T2 : List (It S w0)), i.x = x ∧ i.ah = a ∧ xs = i.x.cells i.va i.vk ++ ys ∧ Row S w0 5 i.vk x.kids.length zs ∧ T = i :: (T1 ++ T2) ∧ Tells S w0 0 zs x.kids T1 ∧ Tells S w0 x.kind ys r T2 := by
  cases x; rw [Tells]; rfl

/-- All nodes may be handed on. -/
def FitN : List Nd → Prop
  | [] => True
  | .mk k n a t ks :: r => Fit1 (.mk k n a t ks) ∧ FitN ks ∧ FitN r
termination_by l => SizeOf.sizeOf l
theorem fitN_nil : FitN [] := by rw [FitN]; trivial
theorem fitN_cons {x : Nd} {r : List Nd} : FitN (x :: r) ↔ Fit1 x ∧ FitN x.kids ∧ FitN r := by cases x; rw [FitN]; rfl

theorem tells_of {S : Nat → Prop} {w0 : World} (l : List Nd) : ∀ (a : Int) (xs : List Value), RepC S w0 xs l → FitN l → ∃ T, Tells S w0 a xs l T ∧ T.map It.pair = M3.seqN a l := by
  induction l using Nd.ind with
  | h0 => intro a xs h _; rw [RepC] at h; exact ⟨[], by rw [Tells]; exact ⟨h, rfl⟩, by rw [M3.seqN_nil]; rfl⟩
  | h1 k n ats t ks r ih1 ih2 =>
    intro a xs h hf
    obtain ⟨va, vk, ys, h1, h2, ⟨zs, h3, h4⟩, h5⟩ := RepC.cons_iff.1 h
    obtain ⟨f1, f2, f3⟩ := fitN_cons.1 hf
    obtain ⟨T1, t1, e1⟩ := ih1 0 zs h4 f2
    obtain ⟨T2, t2, e2⟩ := ih2 k ys h5 f3
    refine ⟨⟨.mk k n ats t ks, a, va, vk, ⟨h2, ⟨zs, h3, h4⟩⟩, f1⟩ :: (T1 ++ T2), Tells.cons_iff.2 ⟨_, zs, ys, T1, T2, rfl, rfl, by rw [h1]; rfl, h3, rfl, t1, t2⟩, ?_⟩
    rw [M3.seqN_cons, List.map_cons, List.map_append, e1, e2]
    rfl

theorem room_none {F : Fence} (hd : F.depth = none) (k : Nat) : F.room k := fun d h => by rw [hd] at h; cases h
theorem yield_deep {F : Fence} (hd : F.depth = none) {m : Nat} (m' : Nat) {P : Program} {l : Nat} {args : Array Value} {W : World} {R : Ending → World → Prop} (h : YieldAt F m P l args W R) : YieldAt F m' P l args W R := by
  obtain ⟨fn, tmps, assign, body, hy, hR⟩ := h
  exact ⟨fn, tmps, assign, body, hy, hR.1, fun c cs _ => hR.2 c cs (room_none hd _)⟩
theorem weight_mem {x : Nd} {l : List Nd} (h : x ∈ l) : M3.weight x.kids < M3.weight l := by
  induction l with
  | nil => cases h
  | cons y r ih =>
    rw [M3.weight_cons]
    rcases List.mem_cons.1 h with rfl | h
    · omega
    · have := ih h; omega

/-- What a round keeps: all that lay below n₀, and each variable of five cells laid from n₁ on. -/
structure Kp5 (n₀ n₁ : Nat) (W W' : World) : Prop where
  low : Below n₀ W W'
  five : ∀ (b : Nat) (cs : Array Value) (t : TypeId), n₁ ≤ b → cs.size = 5 → W.heap[b]? = some (.cells cs t (0, 0)) → W'.heap[b]? = some (.cells cs t (0, 0))
section
variable {n₀ n₁ : Nat} {A B C : World}
theorem Kp5.refl (A : World) : Kp5 n₀ n₁ A A := ⟨Below.refl _ _, fun _ _ _ _ _ h => h⟩
theorem Kp5.trans (h : Kp5 n₀ n₁ A B) (k : Kp5 n₀ n₁ B C) : Kp5 n₀ n₁ A C := ⟨h.low.trans k.low, fun b cs t hb hc h1 => k.five b cs t hb hc (h.five b cs t hb hc h1)⟩
theorem Kp5.of_below (h : Below A.heap.size A B) (hn : n₀ ≤ A.heap.size) : Kp5 n₀ n₁ A B := ⟨h.mono hn, fun b _ _ _ _ h1 => (h.block b (Array.getElem?_eq_some_iff.1 h1).1).trans h1⟩
theorem Kp5.box (h : Kp5 n₀ n₁ A B) {g : Nat} {t : TypeId} {x : Nd} {va vk : Value} (hb : Box A g t (x.cells va vk)) (hg : n₁ ≤ g) : Box B g t (x.cells va vk) := h.five g _ t hg rfl hb
theorem kp5_b {w : World} (hn : n₀ ≤ w.heap.size) (W : World) (l : Nat) (o o' : Obj) (hl : w.heap.size ≤ l) (h : W.heap[l]? = some o) (hc : o.isCells = false) (hw : o.isWalk = false) : Kp5 n₀ n₁ W (W.putObj l o') :=
  ⟨belowK_b hn W l o o' hl h hc hw, fun b _ _ _ _ h1 => ((grownBy_putObj' W l o').block b (Array.getElem?_eq_some_iff.1 h1).1 (fun e => by cases e; rw [h1] at h; cases h; cases hc)).trans h1⟩
end


end Go.Proofs.Yteefodibpjgicaa

/- Package dom: what nodes weigh, whether they may be. -/
namespace Go.Proofs.Yteefodibpjgicaa
open Go.RowKit Go.Shelf

attribute [local go_sem] Oper.semAt_some

def sumZ (L : List Nd) : Int := L.foldl (fun s x => wrap64 (s + wrap64 (1 + (x.attrs.length : Int)))) 0
theorem sumZ_snoc (L : List Nd) (x : Nd) : sumZ (L ++ [x]) = wrap64 (sumZ L + wrap64 (1 + (x.attrs.length : Int))) := by simp [sumZ]
theorem sumZ_from (L : List Nd) : ∀ (s : Int), 0 ≤ s → s + ((L.map fun x => 1 + x.attrs.length).sum : Nat) ≤ 4611686018427387904 → L.foldl (fun s x => wrap64 (s + wrap64 (1 + (x.attrs.length : Int)))) s = s + ((L.map fun x => 1 + x.attrs.length).sum : Nat) := by
  induction L with
  | nil => intro s _ _; simp
  | cons x r ih =>
    intro s h0 h
    rw [List.map_cons, List.sum_cons] at h ⊢
    rw [List.foldl_cons, IntWalk.wrap64_in (1 + (x.attrs.length : Int)) (by omega), IntWalk.wrap64_in _ (by omega), ih _ (by omega) (by omega)]
    omega
theorem sumZ_eq (L : List Nd) (h : (L.map fun x => 1 + x.attrs.length).sum ≤ 4611686018427387904) : sumZ L = ((L.map fun x => 1 + x.attrs.length).sum : Nat) := by
  have := sumZ_from L 0 (Int.le_refl _) (by omega)
  rw [Int.zero_add] at this
  exact this
theorem kf_of_below {B : Nat} {W W' : World} (h : Below W.heap.size W W') : KeepsFrom B W W' := ⟨h.size, fun k _ _ hk _ => (h.block k (Array.getElem?_eq_some_iff.1 hk).1).trans hk⟩
theorem Tells.nds {S : Nat → Prop} {w0 : World} {l : List Nd} {T : List (It S w0)} (h : T.map It.pair = M3.seqN 0 l) : T.map It.x = M3.all l := by
  rw [← M3.all_eq 0 l, ← h, List.map_map]; rfl

theorem ownFrom_size {β : Type} (B k : Nat) : OwnFrom B (fun (_ : β) W => k ≤ W.heap.size) := fun _ _ _ _ hs hg _ => Nat.le_trans hs hg.size
theorem box_own {X Y : World} {row : Option Nat} {g : Nat} {t : TypeId} {cs : List Value} (h : Box X g t cs) (hg : X.grownBy Y row) (hr : ∀ r, row = some r → ∃ o : Obj, X.heap[r]? = some o ∧ o.isCells = false) : Box Y g t cs :=
  h.keep (hg.block g h.lt (fun e => by obtain ⟨o, ho, hc⟩ := hr g e.symm; rw [show X.heap[g]? = _ from h] at ho; cases ho; cases hc))
theorem kp5_set {n₀ n₁ g : Nat} (W : World) (u : Value) (h0 : n₀ ≤ g) (h1 : g < n₁) : Kp5 n₀ n₁ W (W.setCell ⟨g, 0, none⟩ u) :=
  ⟨(Below.refl _ _).setCell (p := ⟨g, 0, none⟩) h0 _, fun b _ _ hb _ h => (Below.heap_setCell W ⟨g, 0, none⟩ u b (fun e => by simp at e; omega)).trans h⟩
theorem It.shapes {S : Nat → Prop} {w0 : World} (x : It S w0) : (∃ a c, x.va = .slice a x.x.attrs.length c) ∧ ∃ a c, x.vk = .slice a x.x.kids.length c := ⟨x.rep.at_.slice, x.rep.kids.slice⟩


end Go.Proofs.Yteefodibpjgicaa

/- Package dom: whether nodes may be. -/
namespace Go.Proofs.Yteefodibpjgicaa
open Go.RowKit Go.Shelf

attribute [local go_sem] Oper.semAt_some

theorem firstE_prefix {a b : List (Nd × Int)} (h : a <+: b) (hn : M3.firstE a ≠ 0) : M3.firstE b = M3.firstE a := by
  obtain ⟨c, rfl⟩ := h
  rw [M3.firstE_append, if_pos hn]
theorem firstE_snoc (a : List (Nd × Int)) (p : Nd × Int) (h : M3.firstE a = 0) : M3.firstE (a ++ [p]) = M3.oneE p.1 (p.2 == 2) := by
  rw [M3.firstE_append, if_neg (by simpa using h), M3.firstE, M3.firstE]
  split
  · rfl
  · rename_i h; simp at h; exact h.symm


end Go.Proofs.Yteefodibpjgicaa

/- Layer 3's own example at the end of each law. -/
namespace Go.Proofs.Yteefodibpjgicaa
open Go.RowKit

/-- The example's nodes. -/
def liveT : Nd := .mk 2 ⟨#[]⟩ [] ⟨#[120]⟩ []
def liveN : Nd := .mk 1 ⟨#[97]⟩ [⟨⟨#[105, 100]⟩, ⟨#[49]⟩⟩] ⟨#[]⟩ [liveT]
theorem live_fit : FitN [liveN] := by
  have h1 : M3.weight liveT.kids = 0 := by show M3.weight [] = 0; rw [M3.weight_nil]
  have h2 : M3.weight liveN.kids = 1 := by show M3.weight [liveT] = 1; rw [M3.weight_cons, h1, M3.weight_nil]; rfl
  refine fitN_cons.2 ⟨⟨by decide, by decide, ?_, by rw [h2]; decide⟩, fitN_cons.2 ⟨⟨by decide, by decide, ?_, by rw [h1]; decide⟩, fitN_nil, fitN_nil⟩, fitN_nil⟩
  · intro a ha; simp [liveN, Nd.attrs] at ha; subst ha; exact ⟨by decide, by decide⟩
  · intro a ha; simp [liveT, Nd.attrs] at ha
theorem live_weight : M3.weight [liveN] = 3 := by
  rw [M3.weight_cons, M3.weight_nil]
  show 1 + 1 + M3.weight [liveT] + 0 = 3
  rw [M3.weight_cons, M3.weight_nil]
  show 1 + 1 + (1 + 0 + M3.weight [] + 0) + 0 = 3
  rw [M3.weight_nil]
theorem isB_low (c : UInt8) (t : List UInt8) (h : c.toNat < 128) (h0 : c.toNat ≠ 0) (h13 : c.toNat ≠ 13) : M1.isB (c :: t) = M1.isB t := by
  rw [M1.isB_step _ (by simp), M2.dec_lo c t h]
  have h3 : c.toNat ≠ 65533 := by omega
  simp [h0, h13, h3]
theorem nilB_data (s : ByteArray) : M3.nilB s = s.data.toList.isEmpty := by unfold M3.nilB; rw [Lib.toList_data]
theorem mayE_ok {p : Bool} {x : Nd} {r : List Nd} (h1 : M3.oneE x p = 0) (h2 : M3.mayE false x.kids = 0) (h3 : M3.mayE (x.kind == 2) r = 0) : M3.mayE p (x :: r) = 0 := by
  rw [M3.mayE_cons]
  simp [h1, h2, h3]
theorem live_may : M3.mayE false [liveN] = 0 := by
  have e1 : M1.isB [120] = true := by rw [isB_low _ _ (by decide) (by decide) (by decide), M1.isB_nil]
  have e2 : M1.isB [105, 100] = true := by rw [isB_low _ _ (by decide) (by decide) (by decide), isB_low _ _ (by decide) (by decide) (by decide), M1.isB_nil]
  have e3 : M1.isB [49] = true := by rw [isB_low _ _ (by decide) (by decide) (by decide), M1.isB_nil]
  have t1 : M3.oneE liveT false = 0 := by
    show M3.oneE (.mk 2 ⟨#[]⟩ [] ⟨#[120]⟩ []) false = 0
    rw [M3.oneE_mk]
    have : M1.isB (⟨#[120]⟩ : ByteArray).data.toList = true := e1
    unfold M3.oneF M3.kindlyF M3.plainF
    rw [this, nilB_data, nilB_data]
    decide
  have a1 : M3.attributedB [105, 100] = true := by
    unfold M3.attributedB
    rw [e2]
    decide
  have n1 : M3.namesE [] [⟨⟨#[105, 100]⟩, ⟨#[49]⟩⟩] = 0 := by
    rw [M3.namesE]
    have : M3.attributedB (⟨#[105, 100]⟩ : ByteArray).data.toList = true := a1
    rw [this]
    rfl
  have v1 : M3.valuesE [⟨⟨#[105, 100]⟩, ⟨#[49]⟩⟩] = 0 := by
    rw [M3.valuesE]
    have : M1.isB (⟨#[49]⟩ : ByteArray).data.toList = true := e3
    rw [this]
    rfl
  have t2 : M3.oneE liveN false = 0 := by
    show M3.oneE (.mk 1 ⟨#[97]⟩ [⟨⟨#[105, 100]⟩, ⟨#[49]⟩⟩] ⟨#[]⟩ [liveT]) false = 0
    rw [M3.oneE_mk]
    unfold M3.oneF M3.elemF M3.kindlyF
    rw [n1, v1, nilB_data]
    rfl
  exact mayE_ok t2 (mayE_ok t1 (M3.mayE_nil _) (M3.mayE_nil _)) (M3.mayE_nil _)

theorem Row.fresh {S : Nat → Prop} {w : World} {g : Nat} {e : TypeId} {cs : List Value} {k n : Nat} (h : Box w g e cs) (hS : S g) (hn : cs.length = n * k) (hl : n ≤ 1000000) : Row S w k (.slice (some ⟨g, 0, none⟩) n n) n cs :=
  ⟨hn, _, n, rfl, Nat.le_refl _, by omega, (fun h => by cases h), fun _ => ⟨g, 0, rfl, hS, fun j u hu => by rw [Nat.zero_add]; exact h.cell hu⟩⟩


end Go.Proofs.Yteefodibpjgicaa
