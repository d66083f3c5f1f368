/- Layer 3 by plain definitions: nodes, their names, which may be, their weight, all of them, merged, cut. No program in it. -/
import Derived.Test.YtjelmpajphajfaaMath1
import Derived.Lib.Strings
namespace Go.Proofs.Ytjelmpajphajfaa

/-- An attribute, a node. -/
structure Att where
  name : ByteArray
  value : ByteArray
inductive Nd where
  | mk (kind : Int) (name : ByteArray) (attrs : List Att) (text : ByteArray) (kids : List Nd)

theorem Nd.ind {P : List Nd → Prop} (h0 : P []) (h1 : ∀ k n a t ks r, P ks → P r → P (Nd.mk k n a t ks :: r)) : ∀ l, P l
  | [] => h0
  | .mk k n a t ks :: r => h1 k n a t ks r (Nd.ind h0 h1 ks) (Nd.ind h0 h1 r)
termination_by l => SizeOf.sizeOf l

def Nd.kind : Nd → Int | .mk k _ _ _ _ => k
def Nd.name : Nd → ByteArray | .mk _ n _ _ _ => n
def Nd.attrs : Nd → List Att | .mk _ _ a _ _ => a
def Nd.text : Nd → ByteArray | .mk _ _ _ t _ => t
def Nd.kids : Nd → List Nd | .mk _ _ _ _ ks => ks
theorem Nd.eta (x : Nd) : x = .mk x.kind x.name x.attrs x.text x.kids := by cases x; rfl

namespace M3
/-- Two texts are the same. -/
def eqB (s t : ByteArray) : Bool := s.toList == t.toList
theorem eqB_iff {s t : ByteArray} : eqB s t = true ↔ s = t := by
  unfold eqB
  rw [beq_iff_eq]
  constructor
  · intro h
    rw [ByteArray.toList_eq, ByteArray.toList_eq] at h
    cases s; cases t
    congr 1
    exact Array.ext' h
  · rintro rfl; rfl
theorem eqB_self (s : ByteArray) : eqB s s = true := eqB_iff.2 rfl
theorem eqB_false {s t : ByteArray} : eqB s t = false ↔ s ≠ t := by
  rw [← Bool.not_eq_true, eqB_iff]
def nilB (s : ByteArray) : Bool := s.toList.isEmpty
theorem nilB_iff {s : ByteArray} : nilB s = true ↔ s.data.toList = [] := by
  unfold nilB
  rw [ByteArray.toList_eq, List.isEmpty_iff]

/-! ### Names -/
def smallB (c : UInt8) : Bool := decide (97 ≤ c.toNat ∧ c.toNat ≤ 122)
def nameB (c : UInt8) : Bool := smallB c || decide (c.toNat = 45 ∨ (48 ≤ c.toNat ∧ c.toNat ≤ 57))
def namedB : List UInt8 → Bool
  | [] => false
  | c :: r => smallB c && r.all nameB
def badB (c : UInt8) : Bool := c.toNat == 9 || c.toNat == 10 || c.toNat == 12 || c.toNat == 32 || c.toNat == 47 || c.toNat == 62 || c.toNat == 61
def capB (c : UInt8) : Bool := decide (65 ≤ c.toNat ∧ c.toNat ≤ 90)
def attributedB (l : List UInt8) : Bool := !l.isEmpty && (M1.isB l && !(l.any capB) && !(l.any badB))
def voidB (l : List UInt8) : Bool := l == [98, 114] || l == [104, 114] || l == [105, 109, 103] || l == [105, 110, 112, 117, 116] || l == [119, 98, 114]
def rawB (l : List UInt8) : Bool := l == [115, 99, 114, 105, 112, 116] || l == [115, 116, 121, 108, 101]

/-- What is left of a name from a place on. -/
def tailB (l : List UInt8) (p : Nat) : Bool := if p = 0 then namedB l else (l.drop p).all nameB
def okR (p : Nat) (r : Int) : Prop := (97 ≤ r ∧ r ≤ 122) ∨ (p ≠ 0 ∧ (r = 45 ∨ (48 ≤ r ∧ r ≤ 57)))
theorem tail_no {l : List UInt8} {p : Nat} (h : p < l.length) (hr : ¬ okR p (l[p].toNat : Int)) : tailB l p = false := by
  unfold tailB okR at *
  by_cases h0 : p = 0
  · subst h0
    rw [if_pos rfl]
    cases l with
    | nil => simp at h
    | cons c r => simp [namedB, smallB] at hr ⊢; intro h1 h2; omega
  · rw [if_neg h0, List.drop_eq_getElem_cons h, List.all_cons]
    have : nameB l[p] = false := by simp [nameB, smallB, h0] at hr ⊢; omega
    rw [this]; rfl
theorem tail_yes {l : List UInt8} {p : Nat} (h : p < l.length) (hr : okR p (l[p].toNat : Int)) : tailB l p = tailB l (p + 1) := by
  unfold tailB okR at *
  rw [if_neg (show ¬ p + 1 = 0 by omega)]
  by_cases h0 : p = 0
  · subst h0
    rw [if_pos rfl]
    cases l with
    | nil => simp at h
    | cons c r => simp [namedB, smallB] at hr ⊢; intro _; exact ⟨by omega, by omega⟩
  · rw [if_neg h0, List.drop_eq_getElem_cons h, List.all_cons]
    have : nameB l[p] = true := by simp [nameB, smallB, h0] at hr ⊢; omega
    rw [this]; rfl
theorem tail_end {l : List UInt8} : tailB l l.length = !l.isEmpty := by
  unfold tailB
  cases l with
  | nil => rfl
  | cons c r => rw [if_neg (by simp)]; simp

/-! ### Which nodes may be -/
def namesE : List ByteArray → List Att → Int
  | _, [] => 0
  | seen, a :: r => if attributedB a.name.data.toList then (if seen.any (eqB a.name) then 5 else namesE (seen ++ [a.name]) r) else 4
def valuesE : List Att → Int
  | [] => 0
  | a :: r => if M1.isB a.value.data.toList then valuesE r else 2
def elemE (x : Nd) : Int :=
  if nilB x.text then (if namedB x.name.data.toList then (if namesE [] x.attrs = 0 then valuesE x.attrs else namesE [] x.attrs) else 4) else 7
def plainB (x : Nd) : Bool := nilB x.name && x.attrs.isEmpty && x.kids.isEmpty
/-- A node's own error; 'p': it stands right behind a text. -/
def oneE (x : Nd) (p : Bool) : Int :=
  if x.kind = 1 then elemE x
  else if x.kind = 2 then (if plainB x then (if M1.isB x.text.data.toList && !(nilB x.text || p) then 0 else 2) else 7)
  else if x.kind = 3 then (if plainB x then (if M1.isB x.text.data.toList then 0 else 2) else 7)
  else 7
def mayE : Bool → List Nd → Int
  | _, [] => 0
  | p, .mk k n a t ks :: r => if oneE (.mk k n a t ks) p ≠ 0 then oneE (.mk k n a t ks) p else if mayE false ks ≠ 0 then mayE false ks else mayE (k == 2) r
termination_by _ l => SizeOf.sizeOf l
theorem mayE_nil (p : Bool) : mayE p [] = 0 := by rw [mayE]
theorem mayE_cons (p : Bool) (x : Nd) (r : List Nd) : mayE p (x :: r) = if oneE x p ≠ 0 then oneE x p else if mayE false x.kids ≠ 0 then mayE false x.kids else mayE (x.kind == 2) r := by
  cases x
  rw [mayE]
  rfl

/-! ### All nodes, each with the Kind of the one ahead of it -/
def seqN : Int → List Nd → List (Nd × Int)
  | _, [] => []
  | a, .mk k n at_ t ks :: r => (.mk k n at_ t ks, a) :: (seqN 0 ks ++ seqN k r)
termination_by _ l => SizeOf.sizeOf l
theorem seqN_nil (a : Int) : seqN a [] = [] := by rw [seqN]
theorem seqN_cons (a : Int) (x : Nd) (r : List Nd) : seqN a (x :: r) = (x, a) :: (seqN 0 x.kids ++ seqN x.kind r) := by cases x; rw [seqN]; rfl
def all : List Nd → List Nd
  | [] => []
  | .mk k n at_ t ks :: r => .mk k n at_ t ks :: (all ks ++ all r)
termination_by l => SizeOf.sizeOf l
theorem all_nil : all [] = [] := by rw [all]
theorem all_cons (x : Nd) (r : List Nd) : all (x :: r) = x :: (all x.kids ++ all r) := by cases x; rw [all]; rfl
def weight : List Nd → Nat
  | [] => 0
  | .mk _ _ at_ _ ks :: r => 1 + at_.length + weight ks + weight r
termination_by l => SizeOf.sizeOf l
theorem weight_nil : weight [] = 0 := by rw [weight]
theorem weight_cons (x : Nd) (r : List Nd) : weight (x :: r) = 1 + x.attrs.length + weight x.kids + weight r := by cases x; rw [weight]; rfl
theorem all_eq (a : Int) (l : List Nd) : (seqN a l).map (·.1) = all l := by
  induction l using Nd.ind generalizing a with
  | h0 => rw [seqN_nil, all_nil]; rfl
  | h1 k n at_ t ks r ih1 ih2 =>
    rw [seqN_cons, all_cons, List.map_cons, List.map_append]
    show _ :: (List.map _ (seqN 0 ks) ++ List.map _ (seqN k r)) = _
    rw [ih1, ih2]; rfl
theorem weight_all (l : List Nd) : weight l = ((all l).map fun x => 1 + x.attrs.length).sum := by
  induction l using Nd.ind with
  | h0 => rw [weight_nil, all_nil]; rfl
  | h1 k n at_ t ks r ih1 ih2 =>
    rw [weight_cons, all_cons, List.map_cons, List.map_append, List.sum_cons, List.sum_append]
    show 1 + at_.length + weight ks + weight r = (1 + at_.length) + (((all ks).map (fun x => 1 + x.attrs.length)).sum + ((all r).map (fun x => 1 + x.attrs.length)).sum)
    rw [ih1, ih2]
    omega
theorem weight_append (a b : List Nd) : weight (a ++ b) = weight a + weight b := by
  induction a with
  | nil => rw [List.nil_append, weight_nil]; omega
  | cons x r ih => rw [List.cons_append, weight_cons, weight_cons, ih]; omega
theorem length_le_weight (l : List Nd) : l.length ≤ weight l := by
  induction l with
  | nil => simp
  | cons x r ih => rw [weight_cons, List.length_cons]; omega
theorem all_len (l : List Nd) : (all l).length ≤ weight l := by
  induction l using Nd.ind with
  | h0 => rw [weight_nil, all_nil]; simp
  | h1 k n at_ t ks r ih1 ih2 =>
    rw [weight_cons, all_cons, List.length_cons, List.length_append]
    show (all ks).length + (all r).length + 1 ≤ 1 + at_.length + weight ks + weight r
    omega
theorem weight_pos (x : Nd) (r : List Nd) : 1 + x.attrs.length + weight x.kids ≤ weight (x :: r) := by rw [weight_cons]; omega

/-! ### May by the row of all -/
def firstE : List (Nd × Int) → Int
  | [] => 0
  | p :: r => if oneE p.1 (p.2 == 2) ≠ 0 then oneE p.1 (p.2 == 2) else firstE r
theorem firstE_append (a b : List (Nd × Int)) : firstE (a ++ b) = if firstE a ≠ 0 then firstE a else firstE b := by
  induction a with
  | nil => simp [firstE]
  | cons p r ih =>
    rw [List.cons_append, firstE, firstE, ih]
    split <;> simp_all
theorem may_eq (a : Int) (l : List Nd) : firstE (seqN a l) = mayE (a == 2) l := by
  induction l using Nd.ind generalizing a with
  | h0 => rw [seqN_nil, mayE_nil]; rfl
  | h1 k n at_ t ks r ih1 ih2 =>
    rw [seqN_cons, mayE_cons, firstE, firstE_append]
    show (if oneE _ (a == 2) ≠ 0 then _ else if firstE (seqN 0 ks) ≠ 0 then firstE (seqN 0 ks) else firstE (seqN k r)) = _
    rw [ih1, ih2]
    rfl

/-! ### The same -/
def sameA : List Att → List Att → Bool
  | [], [] => true
  | a :: r, b :: s => eqB a.name b.name && eqB a.value b.value && sameA r s
  | _, _ => false
def sameN : List Nd → List Nd → Bool
  | [], [] => true
  | .mk k n a t ks :: r, y :: s => k == y.kind && eqB n y.name && eqB t y.text && sameA a y.attrs && sameN ks y.kids && sameN r s
  | _, _ => false
termination_by l _ => SizeOf.sizeOf l
theorem sameN_nil : sameN [] [] = true := by rw [sameN]
theorem sameN_cons (x y : Nd) (r s : List Nd) : sameN (x :: r) (y :: s) = (x.kind == y.kind && eqB x.name y.name && eqB x.text y.text && sameA x.attrs y.attrs && sameN x.kids y.kids && sameN r s) := by
  cases x; rw [sameN]; rfl
theorem sameN_len : ∀ (a b : List Nd), a.length ≠ b.length → sameN a b = false := by
  intro a
  induction a with
  | nil => intro b h; cases b with | nil => simp at h | cons y s => rw [sameN] <;> simp
  | cons x r ih =>
    intro b h
    cases b with
    | nil => rw [sameN] <;> simp
    | cons y s => rw [sameN_cons, ih s (by simpa using h), Bool.and_false]
theorem sameA_len : ∀ (a b : List Att), a.length ≠ b.length → sameA a b = false := by
  intro a
  induction a with
  | nil => intro b h; cases b with | nil => simp at h | cons y s => rfl
  | cons x r ih =>
    intro b h
    cases b with
    | nil => rfl
    | cons y s => rw [sameA, ih s (by simpa using h), Bool.and_false]
theorem sameA_self (a : List Att) : sameA a a = true := by
  induction a with
  | nil => rfl
  | cons x r ih => rw [sameA, ih, eqB_self, eqB_self]; rfl
theorem sameN_self (a : List Nd) : sameN a a = true := by
  induction a using Nd.ind with
  | h0 => exact sameN_nil
  | h1 k n at_ t ks r ih1 ih2 =>
    rw [sameN_cons, eqB_self, eqB_self, sameA_self, ih2]
    show (k == k && true && true && true && sameN ks ks && true) = true
    rw [ih1]; simp

/-! ### Merged -/
def filled (l : List Nd) : List Nd := l.filter fun x => !(x.kind == 2 && nilB x.text)
def withText (x : Nd) (t : ByteArray) : Nd := .mk x.kind x.name x.attrs t x.kids
def cat (s t : ByteArray) : ByteArray := ⟨(s.data.toList ++ t.data.toList).toArray⟩
/-- One node more behind nodes that are merged: the document's own way. -/
def push (out : List Nd) (x : Nd) : List Nd :=
  if x.kind = 2 ∧ nilB x.text = true then out
  else match out.getLast? with
    | some y => if x.kind = 2 ∧ y.kind = 2 then out.dropLast ++ [withText y (cat y.text x.text)] else out ++ [x]
    | none => out ++ [x]
def merge (l : List Nd) : List Nd := l.foldl push []

/-- An attribute's value. -/
def valueOf (name : ByteArray) : List Att → Option ByteArray
  | [] => none
  | a :: r => if eqB a.name name then some a.value else valueOf name r
theorem valueOf_drop (name : ByteArray) (l : List Att) (i : Nat) (h : i < l.length) : valueOf name (l.drop i) = if eqB l[i].name name then some l[i].value else valueOf name (l.drop (i + 1)) := by
  rw [List.drop_eq_getElem_cons h, valueOf]

/-! ### Few of any -/
def few (s : ByteArray) : ByteArray := if 30 < s.size then s.extract 0 30 else s
def fewA (a : Att) : Att := ⟨few a.name, few a.value⟩
def cut : List Nd → Nat → List Nd × Nat
  | [], m => ([], m)
  | _ :: _, 0 => ([], 0)
  | .mk k n a t ks :: r, m + 1 => (.mk k (few n) ((a.take 5).map fewA) (few t) (cut ks m).1 :: (cut r (cut ks m).2).1, (cut r (cut ks m).2).2)
termination_by l _ => SizeOf.sizeOf l
theorem cut_nil (m : Nat) : cut [] m = ([], m) := by rw [cut]
theorem cut_zero (l : List Nd) : cut l 0 = ([], 0) := by cases l <;> rw [cut]
theorem cut_cons (x : Nd) (r : List Nd) (m : Nat) : cut (x :: r) (m + 1) = (.mk x.kind (few x.name) ((x.attrs.take 5).map fewA) (few x.text) (cut x.kids m).1 :: (cut r (cut x.kids m).2).1, (cut r (cut x.kids m).2).2) := by
  cases x; rw [cut]; rfl
theorem cut_le (l : List Nd) (m : Nat) : (cut l m).2 ≤ m := by
  induction l using Nd.ind generalizing m with
  | h0 => rw [cut_nil]; exact Nat.le_refl _
  | h1 k n a t ks r ih1 ih2 =>
    cases m with
    | zero => rw [cut_zero]; exact Nat.le_refl _
    | succ m =>
      rw [cut_cons]
      exact Nat.le_trans (ih2 _) (Nat.le_succ_of_le (ih1 m))
end M3
end Go.Proofs.Ytjelmpajphajfaa
