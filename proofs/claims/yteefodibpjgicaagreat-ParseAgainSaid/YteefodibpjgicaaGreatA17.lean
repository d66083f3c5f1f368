/- Texts joined: Open3, Clone, Clone2. -/
import Derived.ChangeArms
import Derived.DataReads
import Derived.ChangeOld
import Derived.Laws.MakeOwn
import Derived.Laws.Entries
import Derived.Test.YteefodibpjgicaaGreatA16
namespace Go.Proofs.YteefodibpjgicaaGreat
open Go.RowKit Go.ChangeShapes Go.WideShapes
theorem exists_list {α : Type} {p : Nat → α → Prop} (n : Nat) (h : ∀ i,i < n → ∃ a,p i a) : ∃ l : List α,l.length = n ∧ ∀ i (hi : i < l.length),p i l[i]:=by
  induction n with
  | zero => exact ⟨[],rfl,fun i hi => by simp at hi⟩
  | succ n ih =>
    obtain ⟨l,hl,hp⟩:=ih (fun i hi => h i (by omega))
    obtain ⟨a,ha⟩:=h n (by omega)
    refine ⟨l ++ [a],by simp [hl],fun i hi => ?_⟩
    rw [List.length_append,List.length_cons,List.length_nil] at hi
    by_cases hin : i < l.length
    · rw [List.getElem_append_left hin]; exact hp i hin
    · rw [List.getElem_append_right (by omega)]
      simp only [List.getElem_singleton]
      rw [show i = n by omega]; exact ha
theorem flat_get {α : Type} (f : α → List Value) (k : Nat) (hf : ∀ x,(f x).length = k) (_ : 0 < k) : ∀ (L : List α) (j : Nat) (u : Value),(L.flatMap f)[j]? = some u → ∃ (i r : Nat) (h : i < L.length),j = i * k + r ∧ r < k ∧ (f L[i])[r]? = some u:=by
  intro L
  induction L with
  | nil => intro j u h; simp at h
  | cons x r ih =>
    intro j u h
    rw [List.flatMap_cons] at h
    by_cases hj : j < k
    · rw [List.getElem?_append_left (by rw [hf]; exact hj)] at h
      exact ⟨0,j,by simp,by simp,hj,h⟩
    · rw [List.getElem?_append_right (by rw [hf]; omega),hf] at h
      obtain ⟨i,q,hi,h1,h2,h3⟩:=ih _ _ h
      refine ⟨i + 1,q,by simpa using hi,?_,h2,by simpa using h3⟩
      rw [Nat.add_mul]; omega
theorem flat_len {α : Type} (f : α → List Value) (k : Nat) (hf : ∀ x,(f x).length = k) (L : List α) : (L.flatMap f).length = L.length * k:=by
  induction L with
  | nil => simp
  | cons x r ih => rw [List.flatMap_cons,List.length_append,ih,hf,List.length_cons,Nat.add_mul]; omega
theorem cells_cell {w : World} {base : Nat} {a : Addr} {n : Nat} {cs : List Value} (h : w.cells? base a n = some cs) (hn : 0 < n) : ∃ b off,a = ⟨b,off,none⟩ ∧ b < w.heap.size ∧ ∀ i u,cs[i]? = some u → w.cell? ⟨b,off + i,none⟩ = some u:=by
  obtain ⟨_,hl,hc⟩:=World.cells?_some h
  have h0:=hc 0 hn
  rw [List.getElem?_eq_getElem (by omega)] at h0
  obtain ⟨b,off,spot⟩:=a
  have hspot : spot = none:=by simpa [Addr.add] using World.cell?_spot h0
  subst hspot
  refine ⟨b,off,rfl,?_,fun i u hu => ?_⟩
  · have:=World.block_lt_of_cell? w _ h0
    rwa [add_plain'] at this
  · have h1:=hc i (by have:=(List.getElem?_eq_some_iff.1 hu).1; omega)
    rw [add_plain'] at h1
    rw [h1,hu]
section
variable {H : Type} {enc : TypeId × Value → H} {w : World} {base : Nat} {spare : Nat → Bool} {held : Bool}
theorem open_rows {t e : TypeId} {k fuel : Nat} {cs : List Value} {x : DataW H × List MemPlace} (ht : Tryz.prog.underlying t = some (.slice e)) (hC : Tryz.prog.cellsOf e = k) (hk : 0 < k) (h : DataW.trod enc Tryz.prog w base spare held fuel t cs = some x)
    {α : Type} (f : α → List Value) (hf : ∀ x,(f x).length = k) (q : α → Prop) (hq : ∀ n cs' y,n < fuel → cs'.length = k → DataW.trod enc Tryz.prog w base spare held n e cs' = some y → ∃ b : α,cs' = f b ∧ q b) :
    ∃ (v : Value) (L : List α),cs = [v] ∧ Row (fun b => b < w.heap.size) w k v L.length (L.flatMap f) ∧ ∀ b ∈ L,q b:=by
  rcases DataW.trod_slice ht h with ⟨rfl,_⟩ | ⟨a,len,cap,elems,rest,n,hn,rfl,_,_,hl,hm,hlen,hel,_,_⟩
  · exact ⟨_,[],rfl,Row.nil _ _ _,fun b hb => by cases hb⟩
  · have key : ∀ i,i < len → ∃ b : α,q b ∧ w.cells? base (a.add (i * k)) k = some (f b):=by
      intro i hi
      have h1:=hel i hi
      rw [List.getElem?_eq_getElem (by omega),hC] at h1
      obtain ⟨cs',h2,h3⟩:=Option.bind_eq_some_iff.1 h1
      obtain ⟨b,rfl,hb⟩:=hq n cs' _ (by omega) (by have:=(World.cells?_some h2).2.1; exact this) h3
      exact ⟨b,hb,h2⟩
    obtain ⟨L,hL,hp⟩:=exists_list len key
    unfold maxLen at hm
    refine ⟨_,L,rfl,⟨flat_len f k hf L,some a,cap,by rw [hL],by omega,by omega,(fun h => by cases h),fun hpos => ?_⟩,fun b hb => ?_⟩
    · have h0:=(hp 0 hpos).2
      rw [Nat.zero_mul] at h0
      have ha0 : a.add 0 = a:=by unfold Addr.add; simp
      rw [ha0] at h0
      obtain ⟨b,off,rfl,hbl,_⟩:=cells_cell h0 hk
      refine ⟨b,off,rfl,hbl,fun j u hu => ?_⟩
      obtain ⟨i,r,hi,rfl,hr,h3⟩:=flat_get f k hf hk L j u hu
      have h4:=(hp i hi).2
      rw [add_plain'] at h4
      obtain ⟨b',off',h5,_,h6⟩:=cells_cell h4 hk
      cases h5
      rw [← Nat.add_assoc]
      exact h6 r u h3
    · obtain ⟨i,hi,rfl⟩:=List.mem_iff_getElem.1 hb
      exact (hp i hi).1
theorem cell1 (t : TypeId) (h : t = 9 ∨ t = 3 ∨ t = 39 ∨ t = 25) : Tryz.prog.cellsOf t = 1:=by
  rcases h with rfl | rfl | rfl | rfl <;> kernel_rfl
theorem open_att {n : Nat} {cs : List Value} {y : DataW H × List MemPlace} (hl : cs.length = 2) (h : DataW.trod enc Tryz.prog w base spare held n 43 cs = some y) :
    ∃ b : Att,cs = [.string b.name,.string b.value] ∧ b.name.size ≤ 9223372036854775807 ∧ b.value.size ≤ 9223372036854775807:=by
  match cs,hl with
  | [c0,c1],_ =>
    obtain ⟨xs,m,_,_,_,hxs,hf⟩:=DataW.trod_struct Tryz.underlying43 h
    have h0:=hf 0 _ rfl
    have h1:=hf 1 _ rfl
    change DataW.trod enc Tryz.prog w base spare held m 9 ((([c0,c1] : List Value).drop 0).take (Tryz.prog.cellsOf 9)) = xs[0]? at h0
    change DataW.trod enc Tryz.prog w base spare held m 9 ((([c0,c1] : List Value).drop 1).take (Tryz.prog.cellsOf 9)) = xs[1]? at h1
    rw [cell1 9 (Or.inl rfl)] at h0 h1
    simp only [List.drop_zero,List.take_succ_cons,List.take_zero,List.drop_succ_cons] at h0 h1
    rw [List.getElem?_eq_getElem (by rw [hxs]; decide)] at h0
    rw [List.getElem?_eq_getElem (by rw [hxs]; decide)] at h1
    obtain ⟨s0,e0,_,z0⟩:=DataW.trod_string Tryz.underlying9 h0
    obtain ⟨s1,e1,_,z1⟩:=DataW.trod_string Tryz.underlying9 h1
    unfold maxLen at z0 z1
    simp only [List.cons.injEq,and_true] at e0 e1
    exact ⟨⟨s0,s1⟩,by rw [e0,e1],by show s0.size ≤ _; omega,by show s1.size ≤ _; omega⟩
theorem open_attrs {fuel : Nat} {cs : List Value} {x : DataW H × List MemPlace} (h : DataW.trod enc Tryz.prog w base spare held fuel 39 cs = some x) :
    ∃ (v : Value) (L : List Att),cs = [v] ∧ Row (fun b => b < w.heap.size) w 2 v L.length (cellsA L) ∧ ∀ b ∈ L,b.name.size ≤ 9223372036854775807 ∧ b.value.size ≤ 9223372036854775807 :=
  open_rows Tryz.underlying39 (by kernel_rfl) (by decide) h (fun a : Att => [.string a.name,.string a.value]) (fun _ => rfl) (fun b : Att => b.name.size ≤ 9223372036854775807 ∧ b.value.size ≤ 9223372036854775807) (fun n cs' y _ hl h => open_att hl h)
structure NV where
  x : Nd
  va : Value
  vk : Value
theorem open_node {n : Nat} {cs : List Value} {y : DataW H × List MemPlace} (hl : cs.length = 5) (h : DataW.trod enc Tryz.prog w base spare held n 41 cs = some y)
    (ih : ∀ m cs' x,m < n → DataW.trod enc Tryz.prog w base spare held m 25 cs' = some x → ∃ (v : Value) (l : List Nd),cs' = [v] ∧ RepN (fun b => b < w.heap.size) w v l ∧ SzN l) :
    ∃ b : NV,cs = b.x.cells b.va b.vk ∧ RepV (fun b => b < w.heap.size) w b.x b.va b.vk ∧ Sz1 b.x ∧ SzN b.x.kids:=by
  match cs,hl with
  | [c0,c1,c2,c3,c4],_ =>
    obtain ⟨xs,m,hm,_,_,hxs,hf⟩:=DataW.trod_struct Tryz.underlying41 h
    have h0:=hf 0 _ rfl
    have h1:=hf 1 _ rfl
    have h2:=hf 2 _ rfl
    have h3:=hf 3 _ rfl
    have h4:=hf 4 _ rfl
    change DataW.trod enc Tryz.prog w base spare held m 3 ((([c0,c1,c2,c3,c4] : List Value).drop 0).take (Tryz.prog.cellsOf 3)) = xs[0]? at h0
    change DataW.trod enc Tryz.prog w base spare held m 9 ((([c0,c1,c2,c3,c4] : List Value).drop 1).take (Tryz.prog.cellsOf 9)) = xs[1]? at h1
    change DataW.trod enc Tryz.prog w base spare held m 39 ((([c0,c1,c2,c3,c4] : List Value).drop 2).take (Tryz.prog.cellsOf 39)) = xs[2]? at h2
    change DataW.trod enc Tryz.prog w base spare held m 9 ((([c0,c1,c2,c3,c4] : List Value).drop 3).take (Tryz.prog.cellsOf 9)) = xs[3]? at h3
    change DataW.trod enc Tryz.prog w base spare held m 25 ((([c0,c1,c2,c3,c4] : List Value).drop 4).take (Tryz.prog.cellsOf 25)) = xs[4]? at h4
    rw [cell1 3 (Or.inr (Or.inl rfl))] at h0
    rw [cell1 9 (Or.inl rfl)] at h1 h3
    rw [cell1 39 (Or.inr (Or.inr (Or.inl rfl)))] at h2
    rw [cell1 25 (Or.inr (Or.inr (Or.inr rfl)))] at h4
    simp only [List.drop_zero,List.take_succ_cons,List.take_zero,List.drop_succ_cons] at h0 h1 h2 h3 h4
    rw [List.getElem?_eq_getElem (by rw [hxs]; decide)] at h0
    rw [List.getElem?_eq_getElem (by rw [hxs]; decide)] at h1
    rw [List.getElem?_eq_getElem (by rw [hxs]; decide)] at h2
    rw [List.getElem?_eq_getElem (by rw [hxs]; decide)] at h3
    rw [List.getElem?_eq_getElem (by rw [hxs]; decide)] at h4
    obtain ⟨k,e0,_,_⟩:=DataW.trod_int Tryz.underlying3 h0
    obtain ⟨s1,e1,_,z1⟩:=DataW.trod_string Tryz.underlying9 h1
    obtain ⟨va,L,e2,r2,z2⟩:=open_attrs h2
    obtain ⟨s3,e3,_,z3⟩:=DataW.trod_string Tryz.underlying9 h3
    obtain ⟨vk,l,e4,r4,z4⟩:=ih m _ _ (by omega) h4
    unfold maxLen at z1 z3
    simp only [List.cons.injEq,and_true] at e0 e1 e2 e3 e4
    exact ⟨⟨.mk k s1 L s3 l,va,vk⟩,by rw [e0,e1,e2,e3,e4]; rfl,⟨r2,r4⟩,⟨by show s1.size ≤ _; omega,by show s3.size ≤ _; omega,z2⟩,z4⟩
theorem open_nodes (fuel : Nat) : ∀ (cs : List Value) (x : DataW H × List MemPlace),DataW.trod enc Tryz.prog w base spare held fuel 25 cs = some x →
    ∃ (v : Value) (l : List Nd),cs = [v] ∧ RepN (fun b => b < w.heap.size) w v l ∧ SzN l:=by
  induction fuel using Nat.strongRecOn with
  | ind fuel ih =>
    intro cs x h
    obtain ⟨v,L,hv,hr,hq⟩:=open_rows Tryz.underlying25 (by kernel_rfl) (by decide) h (fun b : NV => b.x.cells b.va b.vk) (fun _ => rfl) (fun b => RepV (fun b => b < w.heap.size) w b.x b.va b.vk ∧ Sz1 b.x ∧ SzN b.x.kids)
      (fun n cs' y hn hl h => open_node hl h (fun m cs'' x hm h => ih m (by omega) cs'' x h))
    refine ⟨v,L.map NV.x,hv,⟨_,by simpa using hr,?_⟩,?_⟩
    · clear hr hv h ih
      induction L with
      | nil => exact RepC.nil _ _
      | cons b r ih =>
        rw [List.flatMap_cons,List.map_cons]
        exact RepC.append (m:=r.map NV.x) (ih (fun c hc => hq c (by simp [hc]))) [b.x] _ (RepC.single (hq b (by simp)).1)
    · clear hr hv h ih
      induction L with
      | nil => show SzN []; rw [SzN]; trivial
      | cons b r ih =>
        rw [List.map_cons]
        exact szN_cons.2 ⟨(hq b (by simp)).2.1,(hq b (by simp)).2.2,ih (fun c hc => hq c (by simp [hc]))⟩
end
end Go.Proofs.YteefodibpjgicaaGreat

namespace Go.Proofs.YteefodibpjgicaaGreat
open Go.RowKit
def OwnC (w : World) : List Value → List Nd → List Nat → Prop
  | xs,[],F => xs = [] ∧ F = []
  | xs,.mk k n ats t ks :: r,F => ∃ va vk zs ys F1 F2,xs = .int .i64 k :: .string n :: va :: .string t :: vk :: ys ∧ w.ownsRow 0 43 2 va ats.length (cellsA ats) ∧ w.ownsRow 0 41 5 vk ks.length zs ∧
      F = (va.ownBlock.toList ++ (vk.ownBlock.toList ++ F1)) ++ F2 ∧ OwnC w zs ks F1 ∧ OwnC w ys r F2
termination_by _ l _ => SizeOf.sizeOf l
theorem OwnC.cons_iff {w : World} {xs : List Value} {x : Nd} {r : List Nd} {F : List Nat} :
    OwnC w xs (x :: r) F ↔ ∃ va vk zs ys F1 F2,xs = x.cells va vk ++ ys ∧ w.ownsRow 0 43 2 va x.attrs.length (cellsA x.attrs) ∧ w.ownsRow 0 41 5 vk x.kids.length zs ∧
      F = (va.ownBlock.toList ++ (vk.ownBlock.toList ++ F1)) ++ F2 ∧ OwnC w zs x.kids F1 ∧ OwnC w ys r F2:=by cases x; rw [OwnC]; rfl
theorem OwnC.nil (w : World) : OwnC w [] [] []:=by rw [OwnC]; exact ⟨rfl,rfl⟩
theorem OwnC.keep {w w' : World} (l : List Nd) : ∀ (xs : List Value) (F : List Nat),(∀ b ∈ F,w'.heap[b]? = w.heap[b]?) → OwnC w xs l F → OwnC w' xs l F:=by
  induction l using Nd.ind with
  | h0 => intro xs F _ h; rw [OwnC] at h ⊢; exact h
  | h1 k n ats t ks r ih1 ih2 =>
    intro xs F hk h
    obtain ⟨va,vk,zs,ys,F1,F2,h1,h2,h3,rfl,h5,h6⟩:=OwnC.cons_iff.1 h
    refine OwnC.cons_iff.2 ⟨va,vk,zs,ys,F1,F2,h1,own_keep h2 (fun g hg => hk g (by simp [hg])),own_keep h3 (fun g hg => hk g (by simp [hg])),rfl,ih1 _ _ (fun b hb => hk b (by simp [hb])) h5,ih2 _ _ (fun b hb => hk b (by simp [hb])) h6⟩
theorem OwnC.append {w : World} {m : List Nd} {ys : List Value} {G : List Nat} (h : OwnC w ys m G) (l : List Nd) : ∀ (xs : List Value) (F : List Nat),OwnC w xs l F → OwnC w (xs ++ ys) (l ++ m) (F ++ G):=by
  induction l using Nd.ind with
  | h0 => intro xs F h'; rw [OwnC] at h'; obtain ⟨rfl,rfl⟩:=h'; exact h
  | h1 k n ats t ks r _ ih2 =>
    intro xs F h'
    obtain ⟨va,vk,zs,ys',F1,F2,rfl,h2,h3,rfl,h5,h6⟩:=OwnC.cons_iff.1 h'
    exact OwnC.cons_iff.2 ⟨va,vk,zs,ys' ++ ys,F1,F2 ++ G,by rw [List.append_assoc],h2,h3,by simp,h5,ih2 _ _ h6⟩
theorem OwnC.rep {w : World} (l : List Nd) : ∀ (xs : List Value) (F : List Nat),OwnC w xs l F → RepC (· ∈ F) w xs l:=by
  induction l using Nd.ind with
  | h0 => intro xs F h; rw [OwnC] at h; rw [RepC]; exact h.1
  | h1 k n ats t ks r ih1 ih2 =>
    intro xs F h
    obtain ⟨va,vk,zs,ys,F1,F2,rfl,h2,h3,rfl,h5,h6⟩:=OwnC.cons_iff.1 h
    refine RepC.cons_iff.2 ⟨va,vk,ys,rfl,Row.own h2 (fun g hg => by simp [hg]),⟨zs,Row.own h3 (fun g hg => by simp [hg]),RepC.mono (fun b hb => by simp [hb]) _ _ (ih1 _ _ h5)⟩,RepC.mono (fun b hb => by simp [hb]) _ _ (ih2 _ _ h6)⟩
def Span (lo hi : Nat) (F : List Nat) : Prop:=F.Nodup ∧ ∀ b ∈ F,lo ≤ b ∧ b < hi
theorem Span.nil (lo hi : Nat) : Span lo hi []:=⟨List.nodup_nil,fun b h => by cases h⟩
theorem Span.append {lo mid hi : Nat} {F G : List Nat} (hF : Span lo mid F) (hG : Span mid hi G) (h1 : lo ≤ mid) (h2 : mid ≤ hi) : Span lo hi (F ++ G):=by
  refine ⟨List.nodup_append.2 ⟨hF.1,hG.1,fun a ha b hb e => by have h3:=(hF.2 a ha).2; have h4:=(hG.2 b hb).1; omega⟩,fun b hb => ?_⟩
  rcases List.mem_append.1 hb with hb | hb
  · have:=hF.2 b hb; omega
  · have:=hG.2 b hb; omega
theorem Span.mono {lo lo' hi hi' : Nat} {F : List Nat} (hF : Span lo hi F) (h1 : lo' ≤ lo) (h2 : hi ≤ hi') : Span lo' hi' F:=⟨hF.1,fun b hb => by have:=hF.2 b hb; omega⟩
theorem Span.own {w : World} {B : Nat} {e : TypeId} {k n : Nat} {v : Value} {xs : List Value} (h : w.ownsRow B e k v n xs) : Span B w.heap.size v.ownBlock.toList:=by
  refine ⟨by cases v.ownBlock <;> simp,fun b hb => ?_⟩
  have : v.ownBlock = some b:=by cases hv : v.ownBlock <;> simp [hv] at hb ⊢; exact hb.symm
  exact h.lt b this
def Fresh (w' : World) (B : Nat) (v : Value) (l : List Nd) : Prop:=∃ zs F,w'.ownsRow B 41 5 v l.length zs ∧ OwnC w' zs l F ∧ Span B w'.heap.size (v.ownBlock.toList ++ F)
theorem Fresh.rep {w' : World} {B : Nat} {v : Value} {l : List Nd} (h : Fresh w' B v l) : RepN (fun b => B ≤ b ∧ b < w'.heap.size) w' v l:=by
  obtain ⟨zs,F,h1,h2,h3⟩:=h
  exact ⟨zs,Row.own h1 (fun g hg => h1.lt g hg),RepC.mono (fun b hb => h3.2 b (by simp [hb])) _ _ (OwnC.rep _ _ _ h2)⟩
def FreshPost (l : List Nd) (w : World) (e : Ending) (w' : World) : Prop:=∃ v',e = .returned v' ∧ Fresh w' w.heap.size v' l ∧ Below w.heap.size w w'
def FreshV (x : Nd) (w : World) (e : Ending) (w' : World) : Prop:=∃ va vk zs F,e = .returned (x.val va vk) ∧ w'.ownsRow w.heap.size 43 2 va x.attrs.length (cellsA x.attrs) ∧ w'.ownsRow w.heap.size 41 5 vk x.kids.length zs ∧ OwnC w' zs x.kids F ∧ Span w.heap.size w'.heap.size (va.ownBlock.toList ++ (vk.ownBlock.toList ++ F)) ∧ Below w.heap.size w w'
end Go.Proofs.YteefodibpjgicaaGreat

namespace Go.Proofs.YteefodibpjgicaaGreat
open Go.RowKit
theorem wpList_appRow {P : Program} {ops : Array Oper} {rest : List Oper} {o : Oper} {a : Act} {Q : Exit → Act → World → Prop} (w1 : World) (hgd : o.guard = none) (s y : Operand) (t e : TypeId)
    (ho : o.op = .call { callee:=.builtin .append,args:=#[s,y],argTypes:=#[t,t] }) (base k : Nat) {z : Value} {bytes : Nat} (ht : P.underlying t = some (.slice e))
    (hinfo : (P.info? e).map (fun i => (i.zero,i.size,i.bytes)) = some (some z,k,bytes)) (hz : z.cells.size = k) (hk : 0 < k)
    (v : Value) (n : Nat) (xs : List Value) (hs : a.eval s = v) (hown : w1.ownsRow base e k v n xs) (S : Nat → Prop) (yv : Value) (m : Nat) (ys : List Value) (hy : a.eval y = yv) (hx : Row S w1 k yv m ys) (h1 : ∀ u ∈ ys,u.oneCell' = true)
    (h63 : n + m ≤ 9223372036854775807) (hbytes : (n + m) * bytes ≤ 140737488355328) (hbase : base ≤ w1.heap.size)
    (h : ∀ v' w2,w2.ownsRow base e k v' (n + m) (xs ++ ys) → w1.grownBy w2 v.ownBlock → wpList P ops Q rest (a.put o.dst v') w2) : wpList P ops Q (o :: rest) a w1:=by
  obtain ⟨i,hi,hz0,hz1,hz2⟩:=info_parts hinfo
  obtain ⟨h0,ad,cap,rfl,h2,h3,h4,h5⟩:=hx
  cases ad with
  | none =>
    have h6:=h4 rfl
    obtain rfl : m = 0:=by omega
    obtain rfl : ys = []:=List.eq_nil_of_length_eq_zero (by simpa using h0)
    subst h6
    refine wpList_append_own_none hgd s y t ho base e i k ht hi v n xs hs hown hy ?_
    exact h v w1 (by simpa using hown) ⟨rfl,rfl,rfl,Nat.le_refl _,fun _ _ _ => rfl⟩
  | some ad =>
    refine wpList_append_own _ hgd s y t ho base e i z k bytes ht hi hz0 hz1 hz2 hz hk v n xs hs hown ad m cap ys hy h0 ?_ h1 (by unfold maxLen; omega) hbytes hbase ?_
    · intro j u hj
      have hm : 0 < m:=by
        rcases Nat.eq_zero_or_pos m with h | h
        · subst h
          rw [Nat.zero_mul] at h0
          rw [List.eq_nil_of_length_eq_zero h0] at hj
          simp at hj
        · exact h
      obtain ⟨b,off,h6,_,h7⟩:=h5 hm
      cases h6
      rw [add_plain']
      exact h7 j u hj
    · intro v' w2 h8 h9 _
      exact h v' w2 h8 h9
theorem below_none {W w1 : World} {v : Value} (h : W.grownBy w1 v.ownBlock) (hv : v.ownBlock = none:=by rfl) : Below W.heap.size W w1:=by
  rw [hv] at h
  exact ⟨h.os,h.tape,h.output,h.size,fun k hk => h.block k hk (by simp)⟩
set_option maxHeartbeats 2000000 in
set_option maxRecDepth 100000 in
theorem domClone1 (S : Nat → Prop) (x : Nd) (va vk : Value) (w : World) (hS : ∀ b,S b → b < w.heap.size) (hx : RepV S w x va vk) (hw : x.attrs.length ≤ 1000000)
    (ih : ∀ W : World,(∀ b,S b → b < W.heap.size) → RepN S W vk x.kids → Calls Tryz.prog 211 #[vk] W (FreshPost x.kids W)) :
    Calls Tryz.prog 218 #[x.val va vk] w (FreshV x w):=by
  obtain ⟨hat,hkd⟩:=hx
  obtain ⟨a1,cap1,rfl⟩:=hat.slice
  obtain ⟨a2,cap2,rfl⟩:=hkd.slice
  replace ih:=Lib.hid ih
  go_enter Tryz.func218,Tryz.ntmps218
  have b0:=(Box.new w 41 (x.cells (.slice a1 x.attrs.length cap1) (.slice a2 x.kids.length cap2))).alloc (.cells #[.int .i64 0,.string ⟨#[]⟩,.slice none 0 0,.string ⟨#[]⟩,.slice none 0 0] 41)
  have b1:=Box.new (w.alloc (.cells (x.cells (.slice a1 x.attrs.length cap1) (.slice a2 x.kids.length cap2)).toArray 41)) 41 [.int .i64 0,.string ⟨#[]⟩,.slice none 0 0,.string ⟨#[]⟩,.slice none 0 0]
  have hB0 : Below w.heap.size w ((w.alloc (.cells (x.cells (.slice a1 x.attrs.length cap1) (.slice a2 x.kids.length cap2)).toArray 41)).alloc (.cells #[.int .i64 0,.string ⟨#[]⟩,.slice none 0 0,.string ⟨#[]⟩,.slice none 0 0] 41)):=((Below.refl _ w).alloc (Nat.le_refl _) _).alloc (by simp) _
  have hs0 : ((w.alloc (.cells (x.cells (.slice a1 x.attrs.length cap1) (.slice a2 x.kids.length cap2)).toArray 41)).alloc (.cells #[.int .i64 0,.string ⟨#[]⟩,.slice none 0 0,.string ⟨#[]⟩,.slice none 0 0] 41)).heap.size = w.heap.size + 2:=by simp
  have hat0:=hat.below hS hB0
  simp only [World.size_alloc] at b1
  go_wp2_with (at_builtin; refine wpList_appRow _ rfl _ _ 39 43 rfl (w.heap.size + 2) 2 Tryz.underlying39 infoA rfl (by omega) _ 0 [] rfl (World.ownsRow_nil _ _ _ _) S _ x.attrs.length (cellsA x.attrs) rfl hat0 (cellsA_one _) (by omega) (by omega) (by simp) ?_; intro v1 w1 hown1 hgrow1; obtain ⟨a3,cap3,rfl⟩:=own_slice hown1; have hb1:=below_none hgrow1; rw [hs0] at hb1; have b2:=b0.below hb1 (by omega); have b3:=b1.below hb1 (by omega); have c2:=b2.cell (i:=2) rfl; have c4:=b2.cell (i:=4) rfl; have f2:=b2.free 2)
  have b4:=b2.set 2 (.slice a3 x.attrs.length cap3)
  have b5:=b3.far (p:=⟨w.heap.size,2,none⟩) (by simp) (.slice a3 x.attrs.length cap3)
  have hz1 : (w1.setCell ⟨w.heap.size,2,none⟩ (.slice a3 x.attrs.length cap3)).heap.size = w1.heap.size:=by simp [World.setCell]
  have hB1 : Below w.heap.size w (w1.setCell ⟨w.heap.size,2,none⟩ (.slice a3 x.attrs.length cap3)):=(hB0.trans (hb1.mono (by omega))).setCell (p:=⟨w.heap.size,2,none⟩) (Nat.le_refl _) _
  have hown2:=own_keep hown1 (w':=w1.setCell ⟨w.heap.size,2,none⟩ (.slice a3 x.attrs.length cap3)) (fun g hg => Below.heap_setCell _ _ _ _ (by have:=(hown1.lt g hg).1; simp; omega))
  have hsz1:=hb1.size
  simp only [List.nil_append,Nat.zero_add] at hown2
  simp only [List.set_cons_succ,List.set_cons_zero] at b4
  obtain ⟨W1,hW1⟩ : ∃ W1,w1.setCell ⟨w.heap.size,2,none⟩ (.slice a3 x.attrs.length cap3) = W1:=⟨_,rfl⟩
  rw [hW1] at b4 b5 hz1 hB1 hown2 ⊢
  clear hW1 b0 b1 b2 b3 c2 c4 f2 hown1 hgrow1 hat0
  refine (ih.out W1 (fun b h => by have:=hS b h; have:=hB1.size; omega) (hkd.below hS hB1)).mono ?_
  rintro e w2 ⟨v2,rfl,⟨zs,F,hown3,hown4,hspan⟩,hb2⟩
  obtain ⟨a4,cap4,rfl⟩:=own_slice hown3
  have hz2:=hb2.size
  have d0:=b4.below hb2 b4.lt
  have e0:=b5.below hb2 b5.lt
  have q0:=d0.cell (i:=0) rfl
  have q1:=d0.cell (i:=1) rfl
  have q2:=d0.cell (i:=2) rfl
  have q3:=d0.cell (i:=3) rfl
  have q4:=d0.cell (i:=4) rfl
  have p4:=d0.free 4
  have r0:=e0.cell (i:=0) rfl
  have r1:=e0.cell (i:=1) rfl
  have r2:=e0.cell (i:=2) rfl
  have r3:=e0.cell (i:=3) rfl
  have r4:=e0.cell (i:=4) rfl
  have s0:=e0.free 0
  have s1:=e0.free 1
  have s2:=e0.free 2
  have s3:=e0.free 3
  have s4:=e0.free 4
  replace hown3:=Lib.hid hown3
  replace hown4:=Lib.hid hown4
  replace hspan:=Lib.hid hspan
  replace hown2:=Lib.hid hown2
  clear ih
  go_wp2
  have hfar : ∀ b,w.heap.size + 2 ≤ b → ((((((w2.setCell ⟨w.heap.size,4,none⟩ (.slice a4 x.kids.length cap4)).setCell ⟨w.heap.size + 1,0,none⟩ (.int .i64 x.kind)).setCell ⟨w.heap.size + 1,1,none⟩ (.string x.name)).setCell ⟨w.heap.size + 1,2,none⟩ (.slice a3 x.attrs.length cap3)).setCell ⟨w.heap.size + 1,3,none⟩ (.string x.text)).setCell ⟨w.heap.size + 1,4,none⟩ (.slice a4 x.kids.length cap4)).heap[b]? = w2.heap[b]?:=by
    intro b h
    rw [Below.heap_setCell _ _ _ _ (by simp; omega),Below.heap_setCell _ _ _ _ (by simp; omega),Below.heap_setCell _ _ _ _ (by simp; omega),Below.heap_setCell _ _ _ _ (by simp; omega),Below.heap_setCell _ _ _ _ (by simp; omega),Below.heap_setCell _ _ _ _ (by simp; omega)]
  have hB2 : Below w.heap.size w w2:=hB1.trans (hb2.mono (by have:=hB1.size; omega))
  have hB3:=(((((hB2.setCell (p:=⟨w.heap.size,4,none⟩) (Nat.le_refl _) (.slice a4 x.kids.length cap4)).setCell (p:=⟨w.heap.size + 1,0,none⟩) (by simp) (.int .i64 x.kind)).setCell (p:=⟨w.heap.size + 1,1,none⟩) (by simp) (.string x.name)).setCell (p:=⟨w.heap.size + 1,2,none⟩) (by simp) (.slice a3 x.attrs.length cap3)).setCell (p:=⟨w.heap.size + 1,3,none⟩) (by simp) (.string x.text)).setCell (p:=⟨w.heap.size + 1,4,none⟩) (by simp) (.slice a4 x.kids.length cap4)
  have hz5 : ((((((w2.setCell ⟨w.heap.size,4,none⟩ (.slice a4 x.kids.length cap4)).setCell ⟨w.heap.size + 1,0,none⟩ (.int .i64 x.kind)).setCell ⟨w.heap.size + 1,1,none⟩ (.string x.name)).setCell ⟨w.heap.size + 1,2,none⟩ (.slice a3 x.attrs.length cap3)).setCell ⟨w.heap.size + 1,3,none⟩ (.string x.text)).setCell ⟨w.heap.size + 1,4,none⟩ (.slice a4 x.kids.length cap4)).heap.size = w2.heap.size:=by simp [World.setCell]
  have e1:=(((((e0.far (p:=⟨w.heap.size,4,none⟩) (by simp) (.slice a4 x.kids.length cap4)).set 0 (.int .i64 x.kind)).set 1 (.string x.name)).set 2 (.slice a3 x.attrs.length cap3)).set 3 (.string x.text)).set 4 (.slice a4 x.kids.length cap4)
  simp only [List.set_cons_succ,List.set_cons_zero] at e1
  obtain ⟨W5,hW5⟩ : ∃ W5,(((((w2.setCell ⟨w.heap.size,4,none⟩ (.slice a4 x.kids.length cap4)).setCell ⟨w.heap.size + 1,0,none⟩ (.int .i64 x.kind)).setCell ⟨w.heap.size + 1,1,none⟩ (.string x.name)).setCell ⟨w.heap.size + 1,2,none⟩ (.slice a3 x.attrs.length cap3)).setCell ⟨w.heap.size + 1,3,none⟩ (.string x.text)).setCell ⟨w.heap.size + 1,4,none⟩ (.slice a4 x.kids.length cap4) = W5:=⟨_,rfl⟩
  rw [hW5] at hfar hB3 hz5 e1 ⊢
  clear hW5 q0 q1 q2 q3 q4 p4 r0 r1 r2 r3 r4 s0 s1 s2 s3 s4 d0 e0 b4 b5
  have t0:=e1.cell (i:=0) rfl
  have t1:=e1.cell (i:=1) rfl
  have t2:=e1.cell (i:=2) rfl
  have t3:=e1.cell (i:=3) rfl
  have t4:=e1.cell (i:=4) rfl
  have hW1s:=hB1.size
  have hw1 : w.heap.size + 2 ≤ W1.heap.size:=by rw [hz1]; have:=hsz1; simp at this; omega
  refine bodyPost_ret (v:=x.val (.slice a3 x.attrs.length cap3) (.slice a4 x.kids.length cap4)) (by simp [results,Tryz.results218,go_sem,t0,t1,t2,t3,t4]) rfl ?_
  have o2:=own_keep hown2.out (w':=W5) (fun g hg => by
    have h1:=hown2.out.lt g hg
    rw [hfar g h1.1]; exact hb2.block g h1.2)
  have o3:=own_keep hown3.out (w':=W5) (fun g hg => hfar g (by have h1:=hown3.out.lt g hg; omega))
  refine ⟨_,_,zs,F,rfl,own_base o2 (fun g hg => by have:=(o2.lt g hg).1; omega),own_base o3 (fun g hg => by have:=(o3.lt g hg).1; omega),OwnC.keep _ _ _ (fun b hb => hfar b (by have:=hspan.out.2 b (by simp [hb]); omega)) hown4.out,?_,hB3⟩
  have sp:=Span.own hown2.out
  exact Span.mono (Span.append sp (hspan.out) (by omega) (by omega)) (by omega) (by omega)
end Go.Proofs.YteefodibpjgicaaGreat
