/- Texts joined: Math4, Wr1, Tok1. -/
import Derived.Test.YteefodibpjgicaaGreatA2
import Derived.Test.YteefodibpjgicaaGreatA12
import Derived.Test.YteefodibpjgicaaGreatA15
import Derived.Test.YteefodibpjgicaaGreatA20
import Derived.Test.YteefodibpjgicaaGreatA38
namespace Go.Proofs.YteefodibpjgicaaGreat
namespace M4
def attB (a : Att) : List UInt8:=32 :: (a.name.data.toList ++ ([61,34] ++ (M2.escape true a.value.data.toList ++ [34])))
def attsB (l : List Att) : List UInt8:=l.flatMap attB
def headB (n : ByteArray) (l : List Att) : List UInt8:=60 :: (n.data.toList ++ (attsB l ++ [62]))
def endB (n : ByteArray) : List UInt8:=if M3.voidB n.data.toList then [] else [60,47] ++ (n.data.toList ++ [62])
def openB (x : Nd) : List UInt8:=if x.kind = 1 then headB x.name x.attrs else []
def charsB (raw : Bool) (t : ByteArray) : List UInt8:=if raw then t.data.toList else M2.escape false t.data.toList
def commB (t : ByteArray) : List UInt8:=[60,33,45,45] ++ (t.data.toList ++ [45,45,62])
def textB : Bool → List Nd → List UInt8
  | _,[] => []
  | raw,.mk k n a t ks :: r =>
    (if k = 1 then headB n a ++ ((if M3.voidB n.data.toList then [] else textB (M3.rawB n.data.toList) ks) ++ endB n)
     else if k = 2 then charsB raw t else if k = 3 then commB t else []) ++ textB raw r
termination_by _ l => SizeOf.sizeOf l
def oneB (raw : Bool) (x : Nd) : List UInt8 :=
  if x.kind = 1 then headB x.name x.attrs ++ ((if M3.voidB x.name.data.toList then [] else textB (M3.rawB x.name.data.toList) x.kids) ++ endB x.name)
  else if x.kind = 2 then charsB raw x.text else if x.kind = 3 then commB x.text else []
def innerB (v raw : Bool) (ks : List Nd) : List UInt8:=if v then [] else textB raw ks
theorem oneB_1 {raw : Bool} {x : Nd} (h : x.kind = 1) : oneB raw x = headB x.name x.attrs ++ (innerB (M3.voidB x.name.data.toList) (M3.rawB x.name.data.toList) x.kids ++ endB x.name):=by unfold oneB innerB; rw [if_pos h]
theorem innerB_no (raw : Bool) (ks : List Nd) : innerB false raw ks = textB raw ks:=rfl
theorem innerB_yes (raw : Bool) (ks : List Nd) : innerB true raw ks = []:=rfl
theorem oneB_2 {raw : Bool} {x : Nd} (h : x.kind = 2) : oneB raw x = charsB raw x.text:=by unfold oneB; rw [if_neg (by omega),if_pos h]
theorem oneB_3 {raw : Bool} {x : Nd} (h : x.kind = 3) : oneB raw x = commB x.text:=by unfold oneB; rw [if_neg (by omega),if_neg (by omega),if_pos h]
theorem oneB_4 {raw : Bool} {x : Nd} (h1 : x.kind ≠ 1) (h2 : x.kind ≠ 2) (h3 : x.kind ≠ 3) : oneB raw x = []:=by unfold oneB; rw [if_neg h1,if_neg h2,if_neg h3]
theorem textB_nil (raw : Bool) : textB raw [] = []:=by rw [textB]
theorem textB_cons (raw : Bool) (x : Nd) (r : List Nd) : textB raw (x :: r) = oneB raw x ++ textB raw r:=by cases x; rw [textB]; rfl
theorem textB_append (raw : Bool) (a b : List Nd) : textB raw (a ++ b) = textB raw a ++ textB raw b:=by
  induction a with
  | nil => rw [textB_nil]; rfl
  | cons x r ih => rw [List.cons_append,textB_cons,textB_cons,ih,List.append_assoc]
theorem textB_snoc (raw : Bool) (a : List Nd) (x : Nd) : textB raw (a ++ [x]) = textB raw a ++ oneB raw x:=by
  rw [textB_append,textB_cons,textB_nil,List.append_nil]
theorem textB_take (raw : Bool) (l : List Nd) (i : Nat) (h : i < l.length) : textB raw (l.take (i + 1)) = textB raw (l.take i) ++ oneB raw l[i]:=by
  rw [List.take_succ_eq_append_getElem h,textB_snoc]
theorem textB_prefix (raw : Bool) (l : List Nd) (i : Nat) : (textB raw (l.take i)).length ≤ (textB raw l).length:=by
  have : textB raw l = textB raw (l.take i) ++ textB raw (l.drop i):=by rw [← textB_append,List.take_append_drop]
  rw [this,List.length_append]; omega
theorem attsB_take (l : List Att) (i : Nat) (h : i < l.length) : attsB (l.take (i + 1)) = attsB (l.take i) ++ attB l[i]:=by
  unfold attsB
  rw [List.take_succ_eq_append_getElem h,List.flatMap_append,List.flatMap_cons,List.flatMap_nil,List.append_nil]
theorem attsB_prefix (l : List Att) (i : Nat) : (attsB (l.take i)).length ≤ (attsB l).length:=by
  have : attsB l = attsB (l.take i) ++ attsB (l.drop i):=by rw [attsB,attsB,attsB,← List.flatMap_append,List.take_append_drop]
  rw [this,List.length_append]; omega
theorem attsB_len (l : List Att) (h : ∀ a ∈ l,a.name.size ≤ 268435456 ∧ a.value.size ≤ 268435456) : (attsB l).length ≤ l.length * 4294967296:=by
  induction l with
  | nil => simp [attsB]
  | cons a r ih =>
    have h1:=ih (fun b hb => h b (by simp [hb]))
    obtain ⟨h2,h3⟩:=h a (by simp)
    have h4:=M2.escape_len true a.value.data.toList
    have e : (attsB (a :: r)).length = (attB a).length + (attsB r).length:=by simp [attsB]
    have e2 : (attB a).length = a.name.size + (M2.escape true a.value.data.toList).length + 4:=by
      simp only [attB,List.length_cons,List.length_append,List.length_nil]
      show a.name.size + _ + 1 = _
      omega
    have h5 : a.value.data.toList.length = a.value.size:=rfl
    rw [e,List.length_cons]
    omega
theorem headB_len (n : ByteArray) (l : List Att) : (headB n l).length = n.size + (attsB l).length + 2:=by
  simp only [headB,List.length_cons,List.length_append,List.length_nil]
  show n.size + _ + 1 = _
  omega
theorem endB_len (n : ByteArray) : (endB n).length ≤ n.size + 3:=by
  unfold endB
  split
  · simp
  · simp only [List.length_cons,List.length_append,List.length_nil]; show _ + (n.size + _) ≤ _; omega
theorem commB_len (t : ByteArray) : (commB t).length = t.size + 7:=by
  simp only [commB,List.length_cons,List.length_append,List.length_nil]; show _ + (t.size + _) = _; omega
end M4
end Go.Proofs.YteefodibpjgicaaGreat

namespace Go.Proofs.YteefodibpjgicaaGreat
open Go.RowKit
structure Kw (B : Nat) (w w' : World) : Prop where
  low : Below B w w'
  kept : ∀ (k : Nat) (c : Array Value) (t : TypeId) (fr : Nat × Nat),w.heap[k]? = some (.cells c t fr) → t = 41 ∨ t = 43 ∨ t = 25 → w'.heap[k]? = some (.cells c t fr)
theorem Kw.refl (B : Nat) (w : World) : Kw B w w:=⟨Below.refl _ _,fun _ _ _ _ h _ => h⟩
theorem Kw.trans {B : Nat} {a b c : World} (h : Kw B a b) (k : Kw B b c) : Kw B a c:=⟨h.low.trans k.low,fun i cs t fr h1 h2 => k.kept i cs t fr (h.kept i cs t fr h1 h2) h2⟩
theorem Kw.of_below {B : Nat} {a b : World} (h : Below a.heap.size a b) (hB : B ≤ a.heap.size) : Kw B a b :=
  ⟨h.mono hB,fun i _ _ _ h1 _ => (h.block i (Array.getElem?_eq_some_iff.1 h1).1).trans h1⟩
theorem Kw.box {B : Nat} {a b : World} (h : Kw B a b) {g : Nat} {t : TypeId} {cs : List Value} (hb : Box a g t cs) (ht : t = 41 ∨ t = 43 ∨ t = 25) : Box b g t cs:=h.kept _ _ _ _ hb ht
def PutPost (B : Nat) (P : List UInt8 → World → Prop) (acc : List UInt8) (w : World) (e : Ending) (w' : World) : Prop:=e = .returned (.tuple #[]) ∧ P acc w' ∧ Kw B w w'
structure Puts (B F g : Nat) (P : List UInt8 → World → Prop) : Prop where
  enter : ∀ (args : Array Value) (w : World),(callFunc F args).run Tryz.prog w = .ok (.enter F args) w
  base : ∀ acc w,P acc w → B ≤ w.heap.size
  stab : ∀ acc w w',P acc w → Below w.heap.size w w' → P acc w'
  call : ∀ acc (s : ByteArray) w,P acc w → acc.length + s.size ≤ 70368744177664 → Calls Tryz.prog F #[.string s,.pointer (some ⟨g,0,none⟩)] w (PutPost B P (acc ++ s.data.toList) w)
set_option maxHeartbeats 2000000 in
set_option maxRecDepth 100000 in
theorem writeEnd {B F g : Nat} {P : List UInt8 → World → Prop} (hp : Puts B F g P) (x : Nd) (va vk : Value) (acc : List UInt8) (w : World) (hva : ∃ a n c,va = .slice a n c) (hvk : ∃ a n c,vk = .slice a n c) (hP : P acc w) (hl : acc.length + (M4.endB x.name).length ≤ 70368744177664) :
    Calls Tryz.prog 118 #[x.val va vk,.func (.func F) #[] #[.pointer (some ⟨g,0,none⟩)]] w (PutPost B P (acc ++ M4.endB x.name) w):=by
  obtain ⟨a1,n1,c1,rfl⟩:=hva
  obtain ⟨a2,n2,c2,rfl⟩:=hvk
  have hE:=hp.enter
  have hb0 : Kw B w (w.alloc (.cells #[.int .i64 x.kind,.string x.name,.slice a1 n1 c1,.string x.text,.slice a2 n2 c2] 41)):=Kw.of_below ((Below.refl _ _).alloc (Nat.le_refl _) _) (hp.base _ _ hP)
  have hP0 : P acc (w.alloc (.cells #[.int .i64 x.kind,.string x.name,.slice a1 n1 c1,.string x.text,.slice a2 n2 c2] 41)):=hp.stab _ _ _ hP ((Below.refl _ _).alloc (Nat.le_refl _) _)
  have hbx:=Box.new w 41 [.int .i64 x.kind,.string x.name,.slice a1 n1 c1,.string x.text,.slice a2 n2 c2]
  have hv : Hid (M4.endB x.name = if M3.voidB x.name.data.toList then [] else [60,47] ++ (x.name.data.toList ++ [62])):=rfl
  cases hvd : M3.voidB x.name.data.toList
  · rw [hvd,if_neg (by simp)] at hv
    rw [hv.out] at hl ⊢
    simp only [List.length_append,List.length_cons,List.length_nil] at hl
    have hl : acc.length + (0 + 1 + 1 + (x.name.size + (0 + 1))) ≤ 70368744177664:=hl
    clear hv
    replace hb0:=Lib.hid hb0
    go_enter Tryz.func118,Tryz.ntmps118
    go_wp2_with (fail)
    refine (domVoid _ _).mono ?_
    rintro e w1 ⟨rfl,rfl⟩
    rw [hvd]
    replace hvd:=Lib.hid hvd
    go_wp2_with (fail)
    refine (hp.call acc ⟨#[60,47]⟩ _ hP0 (by show acc.length + 2 ≤ _; omega)).mono ?_
    rintro e w1 ⟨rfl,hP1,hk1⟩
    have hb1:=hk1.box hbx (.inl rfl)
    have c1:=hb1.cell (i:=1) rfl
    go_wp2_with (fail)
    refine (hp.call _ x.name _ hP1 (by simp; omega)).mono ?_
    rintro e w2 ⟨rfl,hP2,hk2⟩
    clear c1
    go_wp2_with (fail)
    refine (hp.call _ ⟨#[62]⟩ _ hP2 (by simp; show acc.length + (x.name.size + 1 + 1) + 1 ≤ _; omega)).mono ?_
    rintro e w3 ⟨rfl,hP3,hk3⟩
    have hP4:=Lib.hid hP3
    go_wp2_with (fail)
    go_end0
    exact ⟨rfl,by simpa using hP4.out,((hb0.out.trans hk1).trans hk2).trans hk3⟩
  · rw [hvd,if_pos rfl] at hv
    rw [hv.out,List.append_nil]
    clear hv hl
    replace hb0:=Lib.hid hb0
    replace hP0:=Lib.hid hP0
    go_enter Tryz.func118,Tryz.ntmps118
    go_wp2_with (fail)
    refine (domVoid _ _).mono ?_
    rintro e w1 ⟨rfl,rfl⟩
    rw [hvd]
    go_wp2_with (fail)
    go_end0
    exact ⟨rfl,hP0.out,hb0.out⟩
set_option maxHeartbeats 2000000 in
set_option maxRecDepth 100000 in
theorem writeText {B F g : Nat} {P : List UInt8 → World → Prop} (hp : Puts B F g P) (s : ByteArray) (raw : Bool) (acc : List UInt8) (w : World) (hP : P acc w) (hs : s.size ≤ 1073741824) (hl : acc.length + (M4.charsB raw s).length ≤ 70368744177664) :
    Calls Tryz.prog 109 #[.string s,.bool raw,.func (.func F) #[] #[.pointer (some ⟨g,0,none⟩)]] w (PutPost B P (acc ++ M4.charsB raw s) w):=by
  have hE:=hp.enter
  cases raw
  · have hl : acc.length + (⟨(M2.escape false s.data.toList).toArray⟩ : ByteArray).size ≤ 70368744177664:=hl
    have hQ:=Lib.hid (fun w1 (hb : Below w.heap.size w w1) => hp.call acc ⟨(M2.escape false s.data.toList).toArray⟩ w1 (hp.stab _ _ _ hP hb) hl)
    have hB:=hp.base _ _ hP
    go_enter Tryz.func109,Tryz.ntmps109
    go_wp2_with (fail)
    refine (refsEscape _ _ _ hs).mono ?_
    rintro e w1 ⟨rfl,hb1⟩
    have hk1:=Lib.hid (Kw.of_below hb1 hB)
    go_wp2_with (fail)
    refine (hQ.out _ hb1).mono ?_
    rintro e w2 ⟨rfl,hP2,hk2⟩
    have hP3:=Lib.hid hP2
    go_wp2_with (fail)
    go_end0
    exact ⟨rfl,hP3.out,hk1.out.trans hk2⟩
  · have hQ:=Lib.hid (hp.call acc s w hP hl)
    go_enter Tryz.func109,Tryz.ntmps109
    go_wp2_with (fail)
    refine hQ.out.mono ?_
    rintro e w2 ⟨rfl,hP2,hk2⟩
    have hP3:=Lib.hid hP2
    go_wp2_with (fail)
    go_end0
    exact ⟨rfl,hP3.out,hk2⟩
theorem wr_meas {n k : Nat} (h : k < n) : n - (intOf (.int .i64 ((k : Int) + 1))).toNat < n - (intOf (.int .i64 (k : Int))).toNat:=by
  simp [intOf]; omega
theorem attB_len (a : Att) : (M4.attB a).length = a.name.size + (M2.escape true a.value.data.toList).length + 4:=by
  simp only [M4.attB,List.length_cons,List.length_append,List.length_nil]
  show a.name.size + _ + 1 = _
  omega
set_option maxHeartbeats 4000000 in
set_option maxRecDepth 100000 in
theorem writeBegin {B F g : Nat} {P : List UInt8 → World → Prop} (hp : Puts B F g P) (S : Nat → Prop) (x : Nd) (va vk : Value) (acc : List UInt8) (w w0 : World) (hS : ∀ b,S b → b < B) (hx : RepV S w0 x va vk) (hw : Below B w0 w) (hf : Fit1 x) (hP : P acc w) (hl : acc.length + (M4.headB x.name x.attrs).length ≤ 70368744177664) :
    Calls Tryz.prog 115 #[x.val va vk,.func (.func F) #[] #[.pointer (some ⟨g,0,none⟩)]] w (PutPost B P (acc ++ M4.headB x.name x.attrs) w):=by
  obtain ⟨a1,e1,rfl⟩:=hx.at_.slice
  obtain ⟨a2,e2,rfl⟩:=hx.kids.slice
  obtain ⟨_,hlc,hcm⟩:=hx.at_.len
  have hat:=Lib.hid (fun (W : World) (hW : Below B w W) => hx.at_.keep (w':=W) (fun b h => (hw.trans hW).block b (hS b h)))
  rw [M4.headB_len] at hl
  cases x with | mk k n ats t ks =>
  simp only [Nd.kind,Nd.name,Nd.text,Nd.attrs,Nd.kids,Nd.val] at *
  have hB:=hp.base _ _ hP
  have hE:=hp.enter
  have hb0 : Kw B w (w.alloc (.cells #[.int .i64 k,.string n,.slice a1 ats.length e1,.string t,.slice a2 ks.length e2] 41)):=Kw.of_below ((Below.refl _ _).alloc (Nat.le_refl _) _) hB
  have hP0 : P acc (w.alloc (.cells #[.int .i64 k,.string n,.slice a1 ats.length e1,.string t,.slice a2 ks.length e2] 41)):=hp.stab _ _ _ hP ((Below.refl _ _).alloc (Nat.le_refl _) _)
  have hbx:=Box.new w 41 [.int .i64 k,.string n,.slice a1 ats.length e1,.string t,.slice a2 ks.length e2]
  have hfa:=Lib.hid hf.2.2.1
  clear hx hw hf
  replace hb0:=Lib.hid hb0
  go_enter Tryz.func115,Tryz.ntmps115
  go_wp2_with (fail)
  refine (hp.call acc ⟨#[60]⟩ _ hP0 (by show acc.length + 1 ≤ _; omega)).mono ?_
  rintro e w1 ⟨rfl,hP1,hk1⟩
  have hb1:=hk1.box hbx (.inl rfl)
  have c1:=hb1.cell (i:=1) rfl
  clear hbx
  go_wp2_with (fail)
  refine (hp.call _ n _ hP1 (by simp; omega)).mono ?_
  rintro e w2 ⟨rfl,hP2,hk2⟩
  have hb2:=hk2.box hb1 (.inl rfl)
  have c2:=hb2.cell (i:=2) rfl
  have hkn:=Lib.hid ((hb0.out.trans hk1).trans hk2)
  clear hb1 c1 hk1 hk2 hP1 hP0
  have hacc : Hid (acc ++ (⟨#[60]⟩ : ByteArray).data.toList ++ n.data.toList = acc ++ 60 :: n.data.toList ++ M4.attsB (ats.take 0)):=by show _ = _; simp [M4.attsB]
  replace hP2 : P (acc ++ 60 :: n.data.toList ++ M4.attsB (ats.take 0)) w2:=by rw [← hacc.out]; exact hP2
  clear hacc
  generalize hA0 : acc ++ 60 :: n.data.toList = A0 at *
  have hA0l : A0.length = acc.length + 1 + n.size:=by rw [← hA0]; simp; show _ + (n.size + 1) = _; omega
  replace hA0:=Lib.hid hA0
  go_wp2_with (fail)
  go_loopw [5,15] (fun _ u15 wr => ∃ i : Nat,i ≤ ats.length ∧ u15 = .int .i64 (i : Int) ∧ P (A0 ++ M4.attsB (ats.take i)) wr ∧ Kw B w wr) (fun _ u15 _ => ats.length - (intOf u15).toNat)
  case atStart => exact ⟨0,by omega,rfl,hP2,hkn.out⟩
  case round =>
    obtain ⟨i,hi,rfl,hP3,hk3⟩:=hrel
    by_cases hlt : i < ats.length
    · obtain ⟨b,off,rfl,hSb,q0,q1⟩:=(hat.out wr hk3.low).atA i hlt
      have hbl:=hS b hSb
      have hz3:=hp.base _ _ hP3
      obtain ⟨hfn,hfv⟩:=hfa.out _ (List.getElem_mem hlt)
      have htk:=M4.attsB_take ats i hlt
      have hpre:=M4.attsB_prefix ats (i + 1)
      rw [htk,List.length_append,attB_len] at hpre
      have hab : Hid (A0 ++ M4.attsB (ats.take i) ++ [32] ++ ats[i].name.data.toList ++ [61,34] ++ M2.escape true ats[i].value.data.toList ++ [34] = A0 ++ M4.attsB (ats.take (i + 1))):=by
        show _ = _
        rw [htk,M4.attB]; simp
      generalize hA2 : A0 ++ M4.attsB (ats.take (i + 1)) = A2' at *
      replace hA2:=Lib.hid hA2
      replace htk:=Lib.hid htk
      generalize ats[i].name = nm at *
      generalize ats[i].value = vl at *
      have hlen3 : (A0 ++ M4.attsB (ats.take i)).length + (nm.size + (M2.escape true vl.data.toList).length + 4) ≤ 70368744177664 - 1:=by rw [List.length_append]; omega
      generalize A0 ++ M4.attsB (ats.take i) = A1 at *
      clear hpre htk
      have hP4 : P A1 (wr.alloc (.cells #[.string nm,.string vl] 43)):=hp.stab _ _ _ hP3 ((Below.refl _ _).alloc (Nat.le_refl _) _)
      have hk4 : Kw B w (wr.alloc (.cells #[.string nm,.string vl] 43)):=hk3.trans (Kw.of_below ((Below.refl _ _).alloc (Nat.le_refl _) _) hz3)
      have bx:=Box.new wr 43 [.string nm,.string vl]
      replace hk4:=Lib.hid hk4
      clear hP3 hk3
      go_wp2_with (fail)
      refine (hp.call A1 ⟨#[32]⟩ _ hP4 (by show A1.length + 1 ≤ _; omega)).mono ?_
      rintro e w3 ⟨rfl,hP5,hk5⟩
      have bx1:=hk5.box bx (.inr (.inl rfl))
      have d0:=bx1.cell (i:=0) rfl
      clear bx q0 q1
      go_wp2_with (fail)
      refine (hp.call _ nm _ hP5 (by simp; omega)).mono ?_
      rintro e w4 ⟨rfl,hP6,hk6⟩
      have bx2:=hk6.box bx1 (.inr (.inl rfl))
      have d1:=bx2.cell (i:=1) rfl
      have hl6 : (A1 ++ (⟨#[32]⟩ : ByteArray).data.toList ++ nm.data.toList).length = A1.length + 1 + nm.size:=by simp; show A1.length + (nm.size + 1) = _; omega
      have hk6:=Lib.hid ((hk4.out.trans hk5).trans hk6)
      clear bx1 d0 hP5 hP4 hk4 hk5
      go_wp2_with (fail)
      refine (hp.call _ ⟨#[61,34]⟩ _ hP6 (by rw [hl6]; show _ + 2 ≤ _; omega)).mono ?_
      rintro e w5 ⟨rfl,hP7,hk7⟩
      have bx3:=hk7.box bx2 (.inr (.inl rfl))
      have d1:=bx3.cell (i:=1) rfl
      clear bx2 hP6
      go_wp2_with (fail)
      refine (refsEscape vl true _ (by omega)).mono ?_
      rintro e w6 ⟨rfl,hb8⟩
      have hk8:=Lib.hid ((hk6.out.trans hk7).trans (Kw.of_below hb8 (hp.base _ _ hP7)))
      have hP8:=hp.stab _ _ _ hP7 hb8
      clear hP7 bx3 d1 hk7
      go_wp2_with (fail)
      refine (hp.call _ ⟨(M2.escape true vl.data.toList).toArray⟩ _ hP8 (by rw [List.length_append,hl6]; show _ + 2 + (M2.escape true vl.data.toList).length ≤ _; omega)).mono ?_
      rintro e w7 ⟨rfl,hP9,hk9⟩
      go_wp2_with (fail)
      refine (hp.call _ ⟨#[34]⟩ _ hP9 (by rw [List.length_append,List.length_append,hl6]; show _ + 2 + (M2.escape true vl.data.toList).length + 1 ≤ _; omega)).mono ?_
      rintro e w8 ⟨rfl,hP10,hk10⟩
      have hP11:=Lib.hid (show P A2' w8 from hab.out ▸ hP10)
      clear hP10 hP9 hP8
      go_wp2_with (fail)
      go_roundw
      case rel => exact ⟨i + 1,by omega,by go_num,by rw [hA2.out]; exact hP11.out,(hk8.out.trans hk9).trans hk10⟩
      case measure => exact wr_meas hlt
    · obtain rfl : i = ats.length:=by omega
      rw [List.take_length] at hP3
      have hll : (A0 ++ M4.attsB ats).length + 1 ≤ 70368744177664:=by rw [List.length_append]; omega
      have hab : Hid (A0 ++ M4.attsB ats ++ [62] = acc ++ M4.headB n ats):=by show _ = _; rw [← hA0.out,M4.headB]; simp
      replace hk3:=Lib.hid hk3
      go_wp2_with (fail)
      refine (hp.call _ ⟨#[62]⟩ _ hP3 hll).mono ?_
      rintro e w3 ⟨rfl,hP5,hk5⟩
      have hP6:=Lib.hid (hab.out ▸ hP5 : P (acc ++ M4.headB n ats) w3)
      go_wp2_with (fail)
      go_end0
      exact ⟨rfl,hP6.out,hk3.out.trans hk5⟩
end Go.Proofs.YteefodibpjgicaaGreat

namespace Go.Proofs.YteefodibpjgicaaGreat
open Go.RowKit
def askR (q : UInt8 → Bool) (r : Nat) : Bool:=q (if r < 128 then r.toUInt8 else 128)
def Flat (q : UInt8 → Bool) : Prop:=∀ c : UInt8,128 ≤ c.toNat → q c = q 128
theorem flat_of {q : UInt8 → Bool} (h : ∀ n : Fin 256,128 ≤ n.1 → q n.1.toUInt8 = q 128) : Flat q:=by
  intro c hc
  have:=h ⟨c.toNat,c.toNat_lt⟩ hc
  rwa [show c.toNat.toUInt8 = c by simp] at this
theorem dec_low (l : List UInt8) (c : UInt8) (r : List UInt8) (hl : l = c :: r) (h : c.toNat < 128) : M1.dec l = (c.toNat,1):=by
  subst hl
  unfold M1.dec
  rw [if_pos (by simpa using h)]
  rfl
theorem cont_high (l : List UInt8) (k : Nat) (h : M1.cont l k = true) : ∃ h' : k < l.length,128 ≤ l[k].toNat:=by
  unfold M1.cont at h
  rw [Bool.and_eq_true,decide_eq_true_iff] at h
  obtain ⟨h1,h2⟩:=h
  refine ⟨h1,?_⟩
  rw [List.getD_eq_getElem?_getD,List.getElem?_eq_getElem h1,Option.getD_some] at h2
  have:=beq_iff_eq.1 h2
  omega
theorem dec_high (l : List UInt8) (c : UInt8) (r : List UInt8) (hl : l = c :: r) (h : 128 ≤ c.toNat) :
    128 ≤ (M1.dec l).1 ∧ ∀ k,k < (M1.dec l).2 → ∀ hk : k < l.length,128 ≤ l[k].toNat:=by
  have h0 : ∀ hk : 0 < l.length,128 ≤ l[0].toNat:=by subst hl; intro _; exact h
  have one : ∀ k,k < 1 → ∀ hk : k < l.length,128 ≤ l[k].toNat:=by
    intro k hk hl'
    obtain rfl : k = 0:=by omega
    exact h0 hl'
  unfold M1.dec
  rw [if_neg (by subst hl; simpa using h)]
  split
  · rename_i h1
    rw [Bool.and_eq_true] at h1
    split
    · rename_i h2
      refine ⟨h2,?_⟩
      intro k hk hl'
      match k,hk with
      | 0,_ => exact h0 hl'
      | 1,_ => exact (cont_high l 1 h1.2).2
    · exact ⟨by decide,one⟩
  · split
    · rename_i h1
      rw [Bool.and_eq_true,Bool.and_eq_true] at h1
      split
      · rename_i h2
        rw [Bool.and_eq_true] at h2
        refine ⟨by have:=of_decide_eq_true h2.1; show 128 ≤ _; omega,?_⟩
        intro k hk hl'
        match k,hk with
        | 0,_ => exact h0 hl'
        | 1,_ => exact (cont_high l 1 h1.1.2).2
        | 2,_ => exact (cont_high l 2 h1.2).2
      · exact ⟨by decide,one⟩
    · split
      · rename_i h1
        rw [Bool.and_eq_true,Bool.and_eq_true,Bool.and_eq_true] at h1
        split
        · rename_i h2
          rw [Bool.and_eq_true] at h2
          refine ⟨by have:=of_decide_eq_true h2.1; show 128 ≤ _; omega,?_⟩
          intro k hk hl'
          match k,hk with
          | 0,_ => exact h0 hl'
          | 1,_ => exact (cont_high l 1 h1.1.1.2).2
          | 2,_ => exact (cont_high l 2 h1.1.2).2
          | 3,_ => exact (cont_high l 3 h1.2).2
        · exact ⟨by decide,one⟩
      · exact ⟨by decide,one⟩
theorem ask_low (q : UInt8 → Bool) (c : UInt8) (h : c.toNat < 128) : askR q c.toNat = q c:=by
  unfold askR
  rw [if_pos h]
  congr 1
  simp
theorem spanN_all (q : UInt8 → Bool) (n : Nat) : ∀ (l : List UInt8),n ≤ l.length → (∀ k,k < n → ∀ hk : k < l.length,q l[k] = true) → M5.spanN q l = n + M5.spanN q (l.drop n):=by
  induction n with
  | zero => intro l _ _; simp
  | succ n ih =>
    intro l h1 h2
    cases l with
    | nil => simp at h1
    | cons c r =>
      have h0:=h2 0 (by omega) (by simp)
      have e : M5.spanN q (c :: r) = M5.spanN q r + 1:=by
        unfold M5.spanN
        rw [List.takeWhile_cons,if_pos (by simpa using h0)]
        rfl
      rw [e,List.drop_succ_cons,ih r (by simpa using h1) (fun k hk hl => by
        have:=h2 (k + 1) (by omega) (by simpa using hl)
        simpa using this)]
      omega
theorem spanN_no (q : UInt8 → Bool) (c : UInt8) (r : List UInt8) (h : q c = false) : M5.spanN q (c :: r) = 0:=by
  unfold M5.spanN
  rw [List.takeWhile_cons,h]
  rfl
theorem rune_step {q : UInt8 → Bool} (hq : Flat q) (l : List UInt8) (hl : l ≠ []) :
    (askR q (M1.dec l).1 = true → M5.spanN q l = (M1.dec l).2 + M5.spanN q (l.drop (M1.dec l).2)) ∧ (askR q (M1.dec l).1 = false → M5.spanN q l = 0):=by
  obtain ⟨c,r,rfl⟩:=List.exists_cons_of_ne_nil hl
  have hle:=M1.dec_le (c :: r) hl
  by_cases h : c.toNat < 128
  · have e:=dec_low _ c r rfl h
    rw [e]
    rw [ask_low q c h]
    constructor
    · intro hc
      rw [spanN_all q 1 (c :: r) (by simp) (fun k hk _ => by obtain rfl : k = 0 := by omega
                                                             exact hc)]
    · intro hc
      exact spanN_no q c r hc
  · obtain ⟨h1,h2⟩:=dec_high (c :: r) c r rfl (by omega)
    have ha : askR q (M1.dec (c :: r)).1 = q 128:=by
      unfold askR
      rw [if_neg (by omega)]
    rw [ha]
    constructor
    · intro hc
      exact spanN_all q _ _ hle (fun k hk hl' => by rw [hq _ (h2 k hk hl')]; exact hc)
    · intro hc
      exact spanN_no q c r (by rw [hq c (by omega)]; exact hc)
theorem u8_low (r : Nat) (h : r < 128) : r.toUInt8.toNat = r:=by
  rw [M1.toNat_u8 r (by omega)]
theorem askR_eq (d : UInt8) (hd : d.toNat < 128) (r : Nat) : askR (· == d) r = ((r : Int) == (d.toNat : Int)):=by
  unfold askR
  by_cases h : r < 128
  · rw [if_pos h]
    show (r.toUInt8 == d) = _
    rw [eqI,u8_low r h]
  · rw [if_neg h]
    have e1 : ((128 : UInt8) == d) = false:=by
      rw [eqI]
      have : (128 : UInt8).toNat = 128:=rfl
      rw [this,beq_eq_false_iff_ne]
      omega
    show ((128 : UInt8) == d) = _
    rw [e1]
    symm
    rw [beq_eq_false_iff_ne]
    omega
theorem askR_letter (r : Nat) : askR M5.letterB r = (decide (65 ≤ r ∧ r ≤ 90) || decide (97 ≤ r ∧ r ≤ 122)):=by
  unfold askR
  by_cases h : r < 128
  · rw [if_pos h]
    unfold M5.letterB
    rw [u8_low r h]
  · rw [if_neg h]
    have : M5.letterB 128 = false:=by decide
    rw [this]
    symm
    simp
    omega
theorem askR_blank (r : Nat) : askR M5.blankB r = (((r : Int) == 9) || ((r : Int) == 10) || ((r : Int) == 12) || ((r : Int) == 32)):=by
  have h9:=askR_eq 9 (by decide) r
  have h10:=askR_eq 10 (by decide) r
  have h12:=askR_eq 12 (by decide) r
  have h32:=askR_eq 32 (by decide) r
  show (((askR (· == 9) r || askR (· == 10) r) || askR (· == 12) r) || askR (· == 32) r : Bool) = _
  rw [h9,h10,h12,h32]
  rfl
set_option maxHeartbeats 1000000 in
theorem tokLetter (r : Nat) (w : World) : Calls Tryz.prog 162 #[.int .i32 (r : Int)] w (BoolPost (askR M5.letterB r) w):=by
  rw [askR_letter]
  by_cases h1 : 65 ≤ r
  · by_cases h2 : r ≤ 90
    · have hr : (decide (65 ≤ r ∧ r ≤ 90) || decide (97 ≤ r ∧ r ≤ 122)) = true:=by simp [h1,h2]
      rw [hr]
      clear hr
      go_enter Tryz.func162,Tryz.ntmps162
      go_wp2
      go_ret
      exact ⟨(show Ending.returned (Value.bool _) = Ending.returned (Value.bool _) from congrArg (fun b => Ending.returned (Value.bool b)) (by first | rfl | (rw [Bool.eq_iff_iff]; simp; omega))),rfl⟩
    · by_cases h3 : 97 ≤ r
      · by_cases h4 : r ≤ 122
        · have hr : (decide (65 ≤ r ∧ r ≤ 90) || decide (97 ≤ r ∧ r ≤ 122)) = true:=by simp [h3,h4]
          rw [hr]
          clear hr
          go_enter Tryz.func162,Tryz.ntmps162
          go_wp2
          go_ret
          exact ⟨(show Ending.returned (Value.bool _) = Ending.returned (Value.bool _) from congrArg (fun b => Ending.returned (Value.bool b)) (by first | rfl | (rw [Bool.eq_iff_iff]; simp; omega))),rfl⟩
        · have hr : (decide (65 ≤ r ∧ r ≤ 90) || decide (97 ≤ r ∧ r ≤ 122)) = false:=by simp [h2,h4]
          rw [hr]
          clear hr
          go_enter Tryz.func162,Tryz.ntmps162
          go_wp2
          go_ret
          exact ⟨(show Ending.returned (Value.bool _) = Ending.returned (Value.bool _) from congrArg (fun b => Ending.returned (Value.bool b)) (by first | rfl | (rw [Bool.eq_iff_iff]; simp; omega))),rfl⟩
      · have hr : (decide (65 ≤ r ∧ r ≤ 90) || decide (97 ≤ r ∧ r ≤ 122)) = false:=by simp [h2,h3]
        rw [hr]
        clear hr
        go_enter Tryz.func162,Tryz.ntmps162
        go_wp2
        go_ret
        exact ⟨(show Ending.returned (Value.bool _) = Ending.returned (Value.bool _) from congrArg (fun b => Ending.returned (Value.bool b)) (by first | rfl | (rw [Bool.eq_iff_iff]; simp; omega))),rfl⟩
  · have hr : (decide (65 ≤ r ∧ r ≤ 90) || decide (97 ≤ r ∧ r ≤ 122)) = false:=by simp; omega
    have h3 : ¬ 97 ≤ r:=by omega
    rw [hr]
    clear hr
    go_enter Tryz.func162,Tryz.ntmps162
    go_wp2
    go_ret
    exact ⟨(show Ending.returned (Value.bool _) = Ending.returned (Value.bool _) from congrArg (fun b => Ending.returned (Value.bool b)) (by first | rfl | (rw [Bool.eq_iff_iff]; simp; omega))),rfl⟩
set_option maxHeartbeats 1000000 in
theorem tokBlank (r : Nat) (w : World) : Calls Tryz.prog 183 #[.int .i32 (r : Int)] w (BoolPost (askR M5.blankB r) w):=by
  rw [askR_blank]
  generalize (r : Int) = n at *
  cases h9 : (n == 9)
  · cases h10 : (n == 10)
    · cases h12 : (n == 12)
      · go_enter Tryz.func183,Tryz.ntmps183
        go_wp2
        go_ret
        exact ⟨rfl,rfl⟩
      · go_enter Tryz.func183,Tryz.ntmps183
        go_wp2
        go_ret
        exact ⟨rfl,rfl⟩
    · go_enter Tryz.func183,Tryz.ntmps183
      go_wp2
      go_ret
      exact ⟨rfl,rfl⟩
  · go_enter Tryz.func183,Tryz.ntmps183
    go_wp2
    go_ret
    exact ⟨rfl,rfl⟩
def betwB (c : UInt8) : Bool:=M5.blankB c || c == 47 || c == 61
set_option maxHeartbeats 1000000 in
theorem tokBetween (r : Nat) (w : World) : Calls Tryz.prog 172 #[.int .i32 (r : Int)] w (BoolPost (askR betwB r) w):=by
  have hB:=Lib.hid (fun w => tokBlank r w)
  have e : askR betwB r = (askR M5.blankB r || ((r : Int) == 47) || ((r : Int) == 61)):=by
    show ((askR M5.blankB r || askR (· == 47) r) || askR (· == 61) r : Bool) = _
    rw [askR_eq 47 (by decide) r,askR_eq 61 (by decide) r]
    rfl
  rw [e]
  clear e
  generalize askR M5.blankB r = b at *
  generalize (r : Int) = n at *
  cases b
  · cases h1 : (n == 47)
    · go_enter Tryz.func172,Tryz.ntmps172
      go_wp2_with (go_at_call 183; refine (hB.out _).mono ?_; rintro e1 w1 ⟨rfl,rfl⟩)
      go_ret
      exact ⟨rfl,rfl⟩
    · go_enter Tryz.func172,Tryz.ntmps172
      go_wp2_with (go_at_call 183; refine (hB.out _).mono ?_; rintro e1 w1 ⟨rfl,rfl⟩)
      go_ret
      exact ⟨rfl,rfl⟩
  · go_enter Tryz.func172,Tryz.ntmps172
    go_wp2_with (go_at_call 183; refine (hB.out _).mono ?_; rintro e1 w1 ⟨rfl,rfl⟩)
    go_ret
    exact ⟨rfl,rfl⟩
set_option maxHeartbeats 1000000 in
theorem tokLeaves (r : Nat) (w : World) : Calls Tryz.prog 180 #[.int .i32 (r : Int)] w (BoolPost (askR edgeB r) w):=by
  have hB:=Lib.hid (fun w => tokBlank r w)
  have e : askR edgeB r = (askR M5.blankB r || ((r : Int) == 47) || ((r : Int) == 62)):=by
    show ((askR M5.blankB r || askR (· == 47) r) || askR (· == 62) r : Bool) = _
    rw [askR_eq 47 (by decide) r,askR_eq 62 (by decide) r]
    rfl
  rw [e]
  clear e
  generalize askR M5.blankB r = b at *
  generalize (r : Int) = n at *
  cases b
  · cases h1 : (n == 47)
    · go_enter Tryz.func180,Tryz.ntmps180
      go_wp2_with (go_at_call 183; refine (hB.out _).mono ?_; rintro e1 w1 ⟨rfl,rfl⟩)
      go_ret
      exact ⟨rfl,rfl⟩
    · go_enter Tryz.func180,Tryz.ntmps180
      go_wp2_with (go_at_call 183; refine (hB.out _).mono ?_; rintro e1 w1 ⟨rfl,rfl⟩)
      go_ret
      exact ⟨rfl,rfl⟩
  · go_enter Tryz.func180,Tryz.ntmps180
    go_wp2_with (go_at_call 183; refine (hB.out _).mono ?_; rintro e1 w1 ⟨rfl,rfl⟩)
    go_ret
    exact ⟨rfl,rfl⟩
end Go.Proofs.YteefodibpjgicaaGreat
