/- Texts joined: Good, Math6b, Math7, Math7b. -/
import Derived.Test.YteefodibpjgicaaGreatA3
import Derived.Test.YteefodibpjgicaaGreatA11
import Derived.Test.YteefodibpjgicaaGreatA22
import Derived.Test.YteefodibpjgicaaGreatA25
namespace Go.Proofs.YteefodibpjgicaaGreat
open Go.RowKit
theorem fitN_all {l : List Nd} : FitN l ↔ ∀ x ∈ l,Fit1 x ∧ FitN x.kids:=by
  induction l with
  | nil => simp [fitN_nil]
  | cons x r ih => rw [fitN_cons,ih]; simp; exact ⟨fun h => ⟨⟨h.1,h.2.1⟩,h.2.2⟩,fun h => ⟨h.1.1,h.1.2,h.2⟩⟩
theorem fit_merged {l : List Nd} (h : FitN l) (ht : txtN l ≤ 268435456) : FitN (M3.merge l):=by
  have h1:=M3.merge_all (P:=fun x => (x.name.size ≤ 268435456 ∧ (∀ a ∈ x.attrs,a.name.size ≤ 268435456 ∧ a.value.size ≤ 268435456) ∧ 1 + x.attrs.length + M3.weight x.kids ≤ 1000000) ∧ FitN x.kids)
    (fun x y hx _ _ _ => by rw [M3.withText_name,M3.withText_attrs,M3.withText_kids]; exact hx) l (fun x hx => by have:=fitN_all.1 h x hx; exact ⟨⟨this.1.1,this.1.2.2.1,this.1.2.2.2⟩,this.2⟩)
  have h2:=txtN_merge l
  refine fitN_all.2 (fun x hx => ?_)
  obtain ⟨⟨q1,q2,q3⟩,q4⟩:=h1 x hx
  have:=txtN_mem hx
  exact ⟨⟨q1,by omega,q2,q3⟩,q4⟩
theorem fit_goodN (l : List Nd) : Sm30 l → M3.weight l ≤ 1000 → FitN (M3.goodN l):=by
  induction l using Nd.ind with
  | h0 => intro _ _; rw [M3.goodN_nil]; exact fitN_nil
  | h1 k n ats t ks r ih1 ih2 =>
    intro hs hw
    obtain ⟨s1,s2,s3⟩:=sm_cons.1 hs
    rw [M3.weight_cons] at hw
    have hw : 1 + ats.length + M3.weight ks + M3.weight r ≤ 1000:=hw
    rw [M3.goodN_cons,M3.good1_mk]
    refine fitN_cons.2 ?_
    by_cases h : M3.kindN k = 1
    · rw [if_pos h]
      have h1:=M3.goodA_len ats
      have h2:=weight_merge (M3.goodN ks)
      have h3:=good_weight ks
      have h4:=good_txt ks s2
      have h5:=M3.length_le_weight ks
      have h6:=M3.wordN_size n 30 s1.1 (by omega)
      refine ⟨⟨by show (M3.wordN n).size ≤ _; omega,by show (⟨#[]⟩ : ByteArray).size ≤ _; decide,?_,by show 1 + (M3.goodA ats).length + M3.weight (M3.merge (M3.goodN ks)) ≤ _; omega⟩,fit_merged (ih1 s2 (by omega)) (by omega),ih2 s3 (by omega)⟩
      refine M3.goodA_all ats (fun a ha => ?_)
      have h7:=s1.2.2 a ha
      have h8:=M3.attrN_size a.name 30 h7.1 (by omega)
      have h9:=M3.rightN_size a.value
      exact ⟨by show (M3.attrN a.name).size ≤ _; omega,by show (M3.rightN a.value).size ≤ _; omega⟩
    · rw [if_neg h]
      have h6:=M3.rightN_size t
      have h7 : t.size ≤ 30:=s1.2.1
      refine ⟨⟨by show (⟨#[]⟩ : ByteArray).size ≤ _; decide,by show (M3.rightN t).size ≤ _; omega,fun a ha => (nomatch (show a ∈ ([] : List Att) from ha)),by show 1 + 0 + M3.weight [] ≤ _; rw [M3.weight_nil]; omega⟩,fitN_nil,ih2 s3 (by omega)⟩
theorem fit_szN (l : List Nd) (h : FitN l) : SzN l:=by
  induction l using Nd.ind with
  | h0 => rw [SzN]; trivial
  | h1 k n ats t ks r ih1 ih2 =>
    obtain ⟨h1,h2,h3⟩:=fitN_cons.1 h
    refine szN_cons.2 ⟨⟨by have:=h1.1; omega,by have:=h1.2.1; omega,fun a ha => by have:=h1.2.2.1 a ha; omega⟩,ih1 h2,ih2 h3⟩
def gdN (l : List Nd) : List Nd:=M3.good (fewN l)
theorem gd_fit (l : List Nd) : FitN (gdN l):=by
  have h1:=fewN_weight l
  have h2:=good_txt (fewN l) (few_sm l)
  have h3:=M3.length_le_weight (fewN l)
  exact fit_merged (fit_goodN _ (few_sm l) (by omega)) (by omega)
set_option maxHeartbeats 2000000 in
theorem ref03Good (S : Nat → Prop) (v : Value) (l : List Nd) (w : World) (hS : ∀ b,S b → b < w.heap.size) (hr : RepN S w v l) (hsz : SzN l) :
    Calls Tryz.prog 17 #[v] w (FreshPost (gdN l) w):=by
  have hF:=Lib.hid (ref03Few S v l w hS hr hsz)
  obtain ⟨a,cap,rfl⟩:=hr.slice
  go_enter Tryz.func17,Tryz.ntmps17
  go_wp2_with fail
  refine hF.out.mono ?_
  rintro e w1 ⟨v1,rfl,hm1,hb1⟩
  have hG:=Lib.hid (ref03good (M3.weight (fewN l) + 1) _ v1 (fewN l) w1 (by omega) (by have:=fewN_weight l; omega) (few_sm l) (fun b h => h.2) hm1.rep)
  obtain ⟨a1,c1,rfl⟩:=hm1.rep.slice
  clear hm1 hF
  go_wp2_with fail
  refine hG.out.mono ?_
  rintro e w2 ⟨v2,rfl,hf2,hb2⟩
  have hb:=bt hb1 hb2
  have hf3:=Lib.hid (hf2.base hb1.size)
  obtain ⟨a2,c2,rfl⟩:=hf2.rep.slice
  clear hf2
  go_wp2_with fail
  go_ret
  exact ⟨_,rfl,hf3.out,hb⟩
end Go.Proofs.YteefodibpjgicaaGreat

namespace Go.Proofs.YteefodibpjgicaaGreat
open Go.RowKit
def dtN : List Nd → Nat
  | [] => 0
  | .mk _ _ _ t ks :: r => t.size + dtN ks + dtN r
termination_by l => SizeOf.sizeOf l
theorem dt_nil : dtN [] = 0:=by rw [dtN]
theorem dt_cons (x : Nd) (r : List Nd) : dtN (x :: r) = x.text.size + dtN x.kids + dtN r:=by cases x; rw [dtN]; rfl
theorem dt_append (a b : List Nd) : dtN (a ++ b) = dtN a + dtN b:=by
  induction a with
  | nil => rw [List.nil_append,dt_nil,Nat.zero_add]
  | cons x r ih => rw [List.cons_append,dt_cons,dt_cons,ih]; omega
theorem txt_dt (l : List Nd) : txtN l ≤ dtN l:=by
  induction l with
  | nil => exact Nat.zero_le _
  | cons x r ih => rw [txtN_cons,dt_cons]; omega
theorem dt_mem {x : Nd} {l : List Nd} (h : x ∈ l) : x.text.size + dtN x.kids ≤ dtN l:=by
  induction l with
  | nil => exact (nomatch h)
  | cons y r ih =>
    rw [dt_cons]
    rcases List.mem_cons.1 h with rfl | h
    · omega
    · have:=ih h; omega
theorem dt_push (out : List Nd) (x : Nd) : dtN (M3.push out x) ≤ dtN out + (x.text.size + dtN x.kids):=by
  cases h : M3.bareB x
  · rcases List.eq_nil_or_concat out with rfl | ⟨o,y,rfl⟩
    · rw [M3.push_none h,dt_cons,dt_nil]; omega
    · rw [List.concat_eq_append,M3.push_snoc h]
      split
      · rw [dt_append,dt_append,dt_cons,dt_cons,M3.withText_text,M3.withText_kids,cat_size,dt_nil]
        omega
      · rw [dt_append,dt_cons,dt_nil]
        omega
  · rw [M3.push_bare h]; omega
end Go.Proofs.YteefodibpjgicaaGreat

namespace Go.Proofs.YteefodibpjgicaaGreat
namespace M7
open M3 (isText withText cat push)
def wk (x : Nd) (ks : List Nd) : Nd:=.mk x.kind x.name x.attrs x.text ks
def openN : Nat → List Nd → List ByteArray
  | 0,_ => []
  | d + 1,L => match L.getLast? with | some x => x.name :: openN d x.kids | none => []
def pathN : Nat → List Nd → List Nat
  | 0,_ => []
  | d + 1,L => match L.getLast? with | some x => (L.length - 1) :: pathN d x.kids | none => []
def levelN : Nat → List Nd → List Nd
  | 0,L => L
  | d + 1,L => match L.getLast? with | some x => levelN d x.kids | none => []
def okD : Nat → List Nd → Prop
  | 0,_ => True
  | d + 1,L => match L.getLast? with | some x => okD d x.kids | none => False
def putN : Nat → Nd → List Nd → List Nd
  | 0,n,L => push L n
  | d + 1,n,L => match L.getLast? with | some x => L.dropLast ++ [wk x (putN d n x.kids)] | none => L
theorem openN_snoc (d : Nat) (A : List Nd) (x : Nd) : openN (d + 1) (A ++ [x]) = x.name :: openN d x.kids:=by rw [openN]; simp
theorem pathN_snoc (d : Nat) (A : List Nd) (x : Nd) : pathN (d + 1) (A ++ [x]) = A.length :: pathN d x.kids:=by rw [pathN]; simp
theorem levelN_snoc (d : Nat) (A : List Nd) (x : Nd) : levelN (d + 1) (A ++ [x]) = levelN d x.kids:=by rw [levelN]; simp
theorem okD_snoc (d : Nat) (A : List Nd) (x : Nd) : okD (d + 1) (A ++ [x]) = okD d x.kids:=by rw [okD]; simp
theorem putN_snoc (d : Nat) (n : Nd) (A : List Nd) (x : Nd) : putN (d + 1) n (A ++ [x]) = A ++ [wk x (putN d n x.kids)]:=by rw [putN]; simp
theorem okD_pre {d n : Nat} {L : List Nd} (h : okD d L) (hn : n ≤ d) : okD n L:=by
  induction n generalizing d L with
  | zero => trivial
  | succ n ih =>
    obtain ⟨d,rfl⟩ : ∃ e,d = e + 1:=⟨d - 1,by omega⟩
    rcases List.eq_nil_or_concat L with rfl | ⟨A,x,rfl⟩
    · exact h.elim
    · rw [List.concat_eq_append,okD_snoc] at *
      exact ih h (by omega)
theorem openN_len {d : Nat} {L : List Nd} (h : okD d L) : (openN d L).length = d:=by
  induction d generalizing L with
  | zero => rfl
  | succ d ih =>
    rcases List.eq_nil_or_concat L with rfl | ⟨A,x,rfl⟩
    · exact h.elim
    · rw [List.concat_eq_append,okD_snoc] at h
      rw [List.concat_eq_append,openN_snoc,List.length_cons,ih h]
theorem pathN_len {d : Nat} {L : List Nd} (h : okD d L) : (pathN d L).length = d:=by
  induction d generalizing L with
  | zero => rfl
  | succ d ih =>
    rcases List.eq_nil_or_concat L with rfl | ⟨A,x,rfl⟩
    · exact h.elim
    · rw [List.concat_eq_append,okD_snoc] at h
      rw [List.concat_eq_append,pathN_snoc,List.length_cons,ih h]
theorem pathN_take {d n : Nat} {L : List Nd} (h : okD d L) (hn : n ≤ d) : pathN n L = (pathN d L).take n:=by
  induction n generalizing d L with
  | zero => rw [List.take_zero]; rfl
  | succ n ih =>
    obtain ⟨d,rfl⟩ : ∃ e,d = e + 1:=⟨d - 1,by omega⟩
    rcases List.eq_nil_or_concat L with rfl | ⟨A,x,rfl⟩
    · exact h.elim
    · rw [List.concat_eq_append,okD_snoc] at *
      rw [pathN_snoc,pathN_snoc,List.take_succ_cons,ih h (by omega)]
theorem put_keeps {d : Nat} {L : List Nd} (x : Nd) (h : okD d L) : okD d (putN d x L) ∧ openN d (putN d x L) = openN d L ∧ (0 < d → (putN d x L).length = L.length):=by
  induction d generalizing L with
  | zero => exact ⟨trivial,rfl,fun h => absurd h (Nat.lt_irrefl _)⟩
  | succ d ih =>
    rcases List.eq_nil_or_concat L with rfl | ⟨A,y,rfl⟩
    · exact h.elim
    · rw [List.concat_eq_append,okD_snoc] at *
      obtain ⟨h1,h2,_⟩:=ih h
      rw [putN_snoc,okD_snoc,openN_snoc,openN_snoc]
      refine ⟨h1,?_,fun _ => by simp⟩
      show y.name :: openN d (putN d x y.kids) = _
      rw [h2]
theorem put_path {d : Nat} {L : List Nd} (x : Nd) (h : okD d L) : pathN d (putN d x L) = pathN d L:=by
  induction d generalizing L with
  | zero => rfl
  | succ d ih =>
    rcases List.eq_nil_or_concat L with rfl | ⟨A,y,rfl⟩
    · exact h.elim
    · rw [List.concat_eq_append,okD_snoc] at *
      rw [putN_snoc,pathN_snoc,pathN_snoc]
      show A.length :: pathN d (putN d x y.kids) = _
      rw [ih h]
theorem put_level {d : Nat} {L : List Nd} (x : Nd) (h : okD d L) : levelN d (putN d x L) = push (levelN d L) x:=by
  induction d generalizing L with
  | zero => rfl
  | succ d ih =>
    rcases List.eq_nil_or_concat L with rfl | ⟨A,y,rfl⟩
    · exact h.elim
    · rw [List.concat_eq_append,okD_snoc] at *
      rw [putN_snoc,levelN_snoc,levelN_snoc]
      exact ih h
theorem openN_more {d : Nat} {L A : List Nd} {x : Nd} (h : okD d L) (hl : levelN d L = A ++ [x]) : okD (d + 1) L ∧ openN (d + 1) L = openN d L ++ [x.name] ∧ pathN (d + 1) L = pathN d L ++ [A.length]:=by
  induction d generalizing L with
  | zero =>
    have hl : L = A ++ [x]:=hl
    subst hl
    rw [okD_snoc,openN_snoc,pathN_snoc]
    exact ⟨trivial,rfl,rfl⟩
  | succ d ih =>
    rcases List.eq_nil_or_concat L with rfl | ⟨B,y,rfl⟩
    · exact h.elim
    · rw [List.concat_eq_append] at *
      rw [okD_snoc] at h
      rw [levelN_snoc] at hl
      obtain ⟨h1,h2,h3⟩:=ih h hl
      rw [okD_snoc,openN_snoc,openN_snoc,pathN_snoc,pathN_snoc]
      exact ⟨h1,by rw [h2]; rfl,by rw [h3]; rfl⟩
theorem put_open {d : Nat} {L : List Nd} (x : Nd) (h : okD d L) (hk : isText x = false) : okD (d + 1) (putN d x L) ∧ openN (d + 1) (putN d x L) = openN d L ++ [x.name] ∧ pathN (d + 1) (putN d x L) = pathN d L ++ [(levelN d L).length]:=by
  obtain ⟨h1,h2,_⟩:=put_keeps x h
  have hb : M3.bareB x = false:=by unfold M3.bareB; rw [hk]; rfl
  have hl : levelN d (putN d x L) = levelN d L ++ [x]:=by
    rw [put_level x h]
    rcases List.eq_nil_or_concat (levelN d L) with e | ⟨o,y,e⟩
    · rw [e,M3.push_none hb]; rfl
    · rw [e,List.concat_eq_append,M3.push_snoc hb,hk]
      simp
  obtain ⟨q1,q2,q3⟩:=openN_more h1 hl
  exact ⟨q1,by rw [q2,h2],by rw [q3,put_path x h]⟩
theorem level_at {d i : Nat} {L : List Nd} (h : okD d L) (hi : i < d) : ∃ A x,levelN i L = A ++ [x] ∧ levelN (i + 1) L = x.kids ∧ (pathN d L)[i]? = some A.length ∧ (openN d L)[i]? = some x.name:=by
  induction i generalizing d L with
  | zero =>
    obtain ⟨d,rfl⟩ : ∃ e,d = e + 1:=⟨d - 1,by omega⟩
    rcases List.eq_nil_or_concat L with rfl | ⟨A,x,rfl⟩
    · exact h.elim
    · rw [List.concat_eq_append]
      exact ⟨A,x,rfl,by rw [levelN_snoc]; rfl,by rw [pathN_snoc]; rfl,by rw [openN_snoc]; rfl⟩
  | succ i ih =>
    obtain ⟨d,rfl⟩ : ∃ e,d = e + 1:=⟨d - 1,by omega⟩
    rcases List.eq_nil_or_concat L with rfl | ⟨B,y,rfl⟩
    · exact h.elim
    · rw [List.concat_eq_append] at *
      rw [okD_snoc] at h
      obtain ⟨A,x,q1,q2,q3,q4⟩:=ih h (by omega)
      exact ⟨A,x,by rw [levelN_snoc]; exact q1,by rw [levelN_snoc]; exact q2,by rw [pathN_snoc]; exact q3,by rw [openN_snoc]; exact q4⟩
def elT (t : Tok) : Nd:=.mk 1 t.name t.attrs ⟨#[]⟩ []
def txT (t : Tok) : Nd:=.mk 2 ⟨#[]⟩ [] t.text []
def coT (t : Tok) : Nd:=.mk 3 ⟨#[]⟩ [] t.text []
def closeAt (o : List ByteArray) (b : ByteArray) : Nat → Nat
  | 0 => 0
  | n + 1 => if M6.closesB (o.getD n ⟨#[]⟩).data.toList b.data.toList then closeAt o b n else n + 1
def endAt (o : List ByteArray) (nm : ByteArray) : Nat → Option Nat
  | 0 => none
  | i + 1 => if (o.getD i ⟨#[]⟩).data.toList = nm.data.toList then some i else endAt o nm i
theorem closeAt_le (o : List ByteArray) (b : ByteArray) (n : Nat) : closeAt o b n ≤ n:=by
  induction n with
  | zero => exact Nat.le_refl _
  | succ n ih => rw [closeAt]; split <;> omega
theorem endAt_lt (o : List ByteArray) (nm : ByteArray) (n i : Nat) (h : endAt o nm n = some i) : i < n:=by
  induction n with
  | zero => cases h
  | succ n ih =>
    rw [endAt] at h
    split at h
    · cases h; omega
    · have:=ih h; omega
structure St where
  L : List Nd
  d : Nat
def step (s : St) (t : Tok) : St :=
  if t.kind = 1 then
    let n:=closeAt (openN s.d s.L) t.name s.d
    ⟨putN n (elT t) s.L,if M3.voidB t.name.data.toList then n else n + 1⟩
  else if t.kind = 2 then (match endAt (openN s.d s.L) t.name s.d with | some i => ⟨s.L,i⟩ | none => s)
  else if t.kind = 3 then ⟨putN s.d (txT t) s.L,s.d⟩
  else if t.kind = 4 then ⟨putN s.d (coT t) s.L,s.d⟩
  else s
def St.ok (s : St) : Prop:=okD s.d s.L
theorem step_ok {s : St} (t : Tok) (h : s.ok) : (step s t).ok:=by
  unfold step
  split
  · have hn:=closeAt_le (openN s.d s.L) t.name s.d
    have h1:=okD_pre h hn
    show okD (if _ then _ else _) (putN _ _ _)
    split
    · exact (put_keeps _ h1).1
    · exact (put_open (elT t) h1 rfl).1
  split
  · split
    · rename_i i he
      exact okD_pre h (Nat.le_of_lt (endAt_lt _ _ _ _ he))
    · exact h
  split
  · exact (put_keeps (txT t) h).1
  split
  · exact (put_keeps (coT t) h).1
  · exact h
def run (l : List Tok) : St:=l.foldl step ⟨[],0⟩
def tree (l : List Tok) : List Nd:=(run l).L
theorem run_snoc (l : List Tok) (t : Tok) : run (l ++ [t]) = step (run l) t:=by unfold run; rw [List.foldl_append]; rfl
theorem run_ok (l : List Tok) : (run l).ok:=by
  have key : ∀ (l : List Tok) (s : St),s.ok → (l.foldl step s).ok:=by
    intro l
    induction l with
    | nil => intro s h; exact h
    | cons t r ih => intro s h; exact ih _ (step_ok t h)
  exact key l _ trivial
end M7
end Go.Proofs.YteefodibpjgicaaGreat

namespace Go.Proofs.YteefodibpjgicaaGreat
namespace M7
open M3 (isText withText cat push)
def el (y : Nd) (ks : List Nd) : Nd:=.mk 1 y.name y.attrs ⟨#[]⟩ ks
def tr : List Nd → List Nd → List Nd
  | [],z => z
  | [x],z => x.kids ++ z
  | x :: y :: r,z => x.kids ++ [el y (tr (y :: r) z)]
def endK (t : List UInt8) : List Nd:=if t = [] then [] else [.mk 2 ⟨#[]⟩ [] ⟨t.toArray⟩ []]
def namesF (fs : List Nd) : List ByteArray:=(fs.drop 1).map Nd.name
theorem tr_cons (x y : Nd) (r : List Nd) (z : List Nd) : tr (x :: y :: r) z = x.kids ++ [el y (tr (y :: r) z)]:=rfl
theorem tr_step (a : Nd) (A : List Nd) (x : Nd) (z : List Nd) : ∃ h,tr (a :: (A ++ [x])) z = a.kids ++ [el h (tr (A ++ [x]) z)] ∧ (∀ x' : Nd,x'.name = x.name → x'.attrs = x.attrs → ∀ z',tr (a :: (A ++ [x'])) z' = a.kids ++ [el h (tr (A ++ [x']) z')]) ∧ h.name = ((A ++ [x]).map Nd.name).headD ⟨#[]⟩:=by
  cases A with
  | nil => exact ⟨x,rfl,fun x' hn ha z' => by show _ ++ [el x' _] = _ ++ [el x _]; unfold el; rw [hn,ha]; rfl,rfl⟩
  | cons c A => exact ⟨c,rfl,fun _ _ _ _ => rfl,rfl⟩
theorem tr_in (A : List Nd) (x : Nd) (a b : List Nd) : tr (A ++ [wk x (x.kids ++ a)]) b = tr (A ++ [x]) (a ++ b):=by
  induction A with
  | nil => show (x.kids ++ a) ++ b = x.kids ++ (a ++ b); rw [List.append_assoc]
  | cons c A ih =>
    obtain ⟨h,e1,e2,_⟩:=tr_step c A x (a ++ b)
    have e3:=e2 (wk x (x.kids ++ a)) rfl rfl b
    rw [List.cons_append,List.cons_append,e1,e3,ih]
theorem tr_shut (A : List Nd) (x y : Nd) (z : List Nd) : tr (A ++ [wk x (x.kids ++ [el y (y.kids ++ z)])]) [] = tr (A ++ [x,y]) z:=by
  induction A with
  | nil => show (x.kids ++ [el y (y.kids ++ z)]) ++ [] = x.kids ++ [el y (y.kids ++ z)]; rw [List.append_nil]
  | cons c A ih =>
    obtain ⟨h,e1,e2,_⟩:=tr_step c A x []
    have e3:=e2 (wk x (x.kids ++ [el y (y.kids ++ z)])) rfl rfl []
    rw [List.cons_append,List.cons_append,e3,ih]
    cases A with
    | nil =>
      have : h = h:=rfl
      have e4 : tr ([c] ++ [x]) [] = c.kids ++ [el x (tr [x] [])]:=rfl
      have e5 : c.kids ++ [el h (tr ([] ++ [x]) [])] = c.kids ++ [el x (tr [x] [])]:=e1.symm.trans e4
      have e6 : el h (tr ([] ++ [x]) []) = el x (tr [x] []):=by
        have:=List.append_cancel_left e5
        exact (List.cons.inj this).1
      have e7 : h.name = x.name ∧ h.attrs = x.attrs:=by
        unfold el at e6
        injection e6 with _ q1 q2 _ _
        exact ⟨q1,q2⟩
      show c.kids ++ [el h (tr [x,y] z)] = c.kids ++ [el x (tr [x,y] z)]
      unfold el
      rw [e7.1,e7.2]
    | cons b A =>
      have e4 : tr (c :: ((b :: A) ++ [x])) [] = c.kids ++ [el b (tr (b :: (A ++ [x])) [])]:=rfl
      have e5:=e1.symm.trans e4
      have e6 : el h (tr ((b :: A) ++ [x]) []) = el b (tr (b :: (A ++ [x])) []):=(List.cons.inj (List.append_cancel_left e5)).1
      have e7 : h.name = b.name ∧ h.attrs = b.attrs:=by
        unfold el at e6
        injection e6 with _ q1 q2 _ _
        exact ⟨q1,q2⟩
      show c.kids ++ [el h (tr ((b :: A) ++ [x,y]) z)] = c.kids ++ [el b (tr ((b :: A) ++ [x,y]) z)]
      unfold el
      rw [e7.1,e7.2]
theorem names_snoc (a : Nd) (A : List Nd) (x : Nd) : namesF (a :: A ++ [x]) = namesF (a :: A) ++ [x.name]:=by
  unfold namesF
  simp
theorem tr_is (A : List Nd) (x : Nd) (z : List Nd) : okD A.length (tr (A ++ [x]) z) ∧ openN A.length (tr (A ++ [x]) z) = namesF (A ++ [x]) ∧ levelN A.length (tr (A ++ [x]) z) = x.kids ++ z ∧ ∀ n,putN A.length n (tr (A ++ [x]) z) = tr (A ++ [wk x []]) (push (x.kids ++ z) n):=by
  induction A with
  | nil => exact ⟨trivial,rfl,rfl,fun n => by show push (x.kids ++ z) n = [] ++ _; rw [List.nil_append]⟩
  | cons c A ih =>
    obtain ⟨q1,q2,q3,q4⟩:=ih
    obtain ⟨h,e1,e2,e3⟩:=tr_step c A x z
    rw [List.cons_append,e1,List.length_cons,okD_snoc,openN_snoc,levelN_snoc]
    refine ⟨q1,?_,q3,fun n => ?_⟩
    · show h.name :: openN A.length (tr (A ++ [x]) z) = _
      rw [q2,e3]
      unfold namesF
      cases A with
      | nil => rfl
      | cons b A => rfl
    · rw [putN_snoc,List.cons_append,e2 (wk x []) rfl rfl]
      show c.kids ++ [wk (el h (tr (A ++ [x]) z)) (putN A.length n (tr (A ++ [x]) z))] = _
      rw [q4]; rfl
theorem endK_nil : endK [] = []:=rfl
theorem endK_cons {t : List UInt8} (h : t ≠ []) : endK t = [.mk 2 ⟨#[]⟩ [] ⟨t.toArray⟩ []]:=by unfold endK; rw [if_neg h]
def noTx (l : List Nd) : Prop:=∀ y,l.getLast? = some y → isText y = false
theorem noTx_nil : noTx []:=fun _ h => by cases h
theorem noTx_snoc {l : List Nd} {x : Nd} (h : isText x = false) : noTx (l ++ [x]):=fun y hy => by
  rw [List.getLast?_concat] at hy; cases hy; exact h
theorem push_more {l : List Nd} (h : noTx l) (t s : List UInt8) (x : Nd) (hx : x = .mk 2 ⟨#[]⟩ [] ⟨s.toArray⟩ []) : push (l ++ endK t) x = l ++ endK (t ++ s):=by
  subst hx
  by_cases hs : s = []
  · subst hs
    rw [M3.push_bare (by rw [M3.bareB_iff]; exact ⟨rfl,by rw [M3.nilB_data']; rfl⟩),List.append_nil]
  · have hb : M3.bareB (.mk 2 ⟨#[]⟩ [] ⟨s.toArray⟩ []) = false:=by
      cases hq : M3.bareB (.mk 2 ⟨#[]⟩ [] ⟨s.toArray⟩ [])
      · rfl
      · obtain ⟨_,h2⟩:=M3.bareB_iff.1 hq
        rw [M3.nilB_data'] at h2
        exact absurd (List.isEmpty_iff.1 h2) hs
    rw [endK_cons (t:=t ++ s) (by simp [hs])]
    by_cases ht : t = []
    · subst ht
      rw [endK_nil,List.append_nil,List.nil_append]
      rcases List.eq_nil_or_concat l with rfl | ⟨B,y,rfl⟩
      · rw [M3.push_none hb]; rfl
      · rw [List.concat_eq_append,M3.push_snoc hb]
        have : isText y = false:=h y (by rw [List.concat_eq_append,List.getLast?_concat])
        rw [this]
        simp
    · rw [endK_cons ht,M3.push_snoc hb]
      show (if true && true then _ else _) = _
      rw [if_pos (by rfl)]
      show l ++ [Nd.mk 2 ⟨#[]⟩ [] (cat ⟨t.toArray⟩ ⟨s.toArray⟩) []] = _
      have : cat ⟨t.toArray⟩ ⟨s.toArray⟩ = ⟨(t ++ s).toArray⟩:=by unfold cat; simp
      rw [this]
theorem push_node {l : List Nd} (x : Nd) (h : isText x = false) : push l x = l ++ [x]:=by
  have hb : M3.bareB x = false:=by unfold M3.bareB; rw [h]; rfl
  rcases List.eq_nil_or_concat l with rfl | ⟨B,y,rfl⟩
  · rw [M3.push_none hb]; rfl
  · rw [List.concat_eq_append,M3.push_snoc hb,h]
    simp
def plc (o : List ByteArray) (nm : ByteArray) : Nat → Nat
  | 0 => 0
  | n + 1 => if (o.getD n ⟨#[]⟩).data.toList = nm.data.toList then n + 1 else plc o nm n
theorem plc_end (o : List ByteArray) (nm : ByteArray) (n : Nat) : endAt o nm n = if plc o nm n = 0 then none else some (plc o nm n - 1):=by
  induction n with
  | zero => rfl
  | succ n ih =>
    rw [endAt,plc]
    split
    · simp
    · exact ih
theorem plc_le (o : List ByteArray) (nm : ByteArray) (n : Nat) : plc o nm n ≤ n:=by
  induction n with
  | zero => exact Nat.le_refl _
  | succ n ih => rw [plc]; split <;> omega
theorem plc_pre (o p : List ByteArray) (nm : ByteArray) (n : Nat) (h : n ≤ o.length) : plc (o ++ p) nm n = plc o nm n:=by
  induction n with
  | zero => rfl
  | succ n ih =>
    rw [plc,plc,ih (by omega)]
    have : (o ++ p).getD n ⟨#[]⟩ = o.getD n ⟨#[]⟩:=by
      rw [List.getD_eq_getElem?_getD,List.getD_eq_getElem?_getD,List.getElem?_append_left (by omega)]
    rw [this]
theorem plc_snoc (o : List ByteArray) (a nm : ByteArray) : plc (o ++ [a]) nm (o.length + 1) = if a.data.toList = nm.data.toList then o.length + 1 else plc o nm o.length:=by
  rw [plc,plc_pre o [a] nm _ (Nat.le_refl _)]
  have : (o ++ [a]).getD o.length ⟨#[]⟩ = a:=by
    rw [List.getD_eq_getElem?_getD,List.getElem?_append_right (Nat.le_refl _)]
    simp
  rw [this]
theorem close_pre (o p : List ByteArray) (b : ByteArray) (n : Nat) (h : n ≤ o.length) : closeAt (o ++ p) b n = closeAt o b n:=by
  induction n with
  | zero => rfl
  | succ n ih =>
    rw [closeAt,closeAt,ih (by omega)]
    have : (o ++ p).getD n ⟨#[]⟩ = o.getD n ⟨#[]⟩:=by
      rw [List.getD_eq_getElem?_getD,List.getD_eq_getElem?_getD,List.getElem?_append_left (by omega)]
    rw [this]
theorem close_snoc (o : List ByteArray) (a b : ByteArray) : closeAt (o ++ [a]) b (o.length + 1) = if M6.closesB a.data.toList b.data.toList = true then closeAt o b o.length else o.length + 1:=by
  rw [closeAt,close_pre o [a] b _ (Nat.le_refl _)]
  have : (o ++ [a]).getD o.length ⟨#[]⟩ = a:=by
    rw [List.getD_eq_getElem?_getD,List.getElem?_append_right (Nat.le_refl _)]
    simp
  rw [this]
theorem weight_push (l : List Nd) (x : Nd) : M3.weight (push l x) ≤ M3.weight l + M3.weight [x]:=by
  cases hb : M3.bareB x
  · rcases List.eq_nil_or_concat l with rfl | ⟨B,y,rfl⟩
    · rw [M3.push_none hb]; omega
    · rw [List.concat_eq_append,M3.push_snoc hb]
      split
      · rw [M3.weight_append,M3.weight_append,M3.weight_cons,M3.weight_cons,M3.withText_attrs,M3.withText_kids]
        omega
      · rw [M3.weight_append]; omega
  · rw [M3.push_bare hb]; omega
theorem weight_put {d : Nat} {L : List Nd} (x : Nd) (h : okD d L) : M3.weight (putN d x L) ≤ M3.weight L + M3.weight [x]:=by
  induction d generalizing L with
  | zero => exact weight_push L x
  | succ d ih =>
    rcases List.eq_nil_or_concat L with rfl | ⟨A,y,rfl⟩
    · exact h.elim
    · rw [List.concat_eq_append,okD_snoc] at *
      rw [putN_snoc,M3.weight_append,M3.weight_append,M3.weight_cons,M3.weight_cons]
      show _ + (1 + y.attrs.length + M3.weight (putN d x y.kids) + _) ≤ _
      have:=ih h
      omega
def tokW (t : Tok) : Nat:=if t.kind = 1 then 1 + t.attrs.length else if t.kind = 3 ∨ t.kind = 4 then 1 else 0
theorem weight_step {s : St} (t : Tok) (h : s.ok) : M3.weight (step s t).L ≤ M3.weight s.L + tokW t:=by
  unfold step tokW
  split
  · have h1:=okD_pre h (closeAt_le (openN s.d s.L) t.name s.d)
    have:=weight_put (elT t) h1
    rw [M3.weight_cons,M3.weight_nil] at this
    show M3.weight (putN _ _ _) ≤ _
    have e : (elT t).kids = []:=rfl
    rw [e,M3.weight_nil] at this
    exact this
  rename_i k1
  split
  · rename_i k2
    rw [if_neg (by rw [k2]; decide)]
    split <;> exact Nat.le_refl _
  split
  · rename_i k3
    rw [if_pos (Or.inl k3)]
    have:=weight_put (txT t) h
    rw [M3.weight_cons,M3.weight_nil] at this
    have e : (txT t).kids = []:=rfl
    rw [e,M3.weight_nil] at this
    exact this
  split
  · rename_i k4
    rw [if_pos (Or.inr k4)]
    have:=weight_put (coT t) h
    rw [M3.weight_cons,M3.weight_nil] at this
    have e : (coT t).kids = []:=rfl
    rw [e,M3.weight_nil] at this
    exact this
  · omega
theorem weight_run (l : List Tok) : M3.weight (run l).L ≤ (l.map tokW).sum:=by
  have key : ∀ (l : List Tok) (s : St),s.ok → M3.weight (l.foldl step s).L ≤ M3.weight s.L + (l.map tokW).sum:=by
    intro l
    induction l with
    | nil => intro s _; exact Nat.le_refl _
    | cons t r ih =>
      intro s h
      have h1:=ih _ (step_ok t h)
      have h2:=weight_step t h
      rw [List.foldl_cons,List.map_cons,List.sum_cons]
      omega
  have:=key l ⟨[],0⟩ trivial
  have e : M3.weight (St.mk [] 0).L = 0:=M3.weight_nil
  unfold run
  omega
end M7
end Go.Proofs.YteefodibpjgicaaGreat
