/- Texts joined: Mem. -/
import Derived.Laws.AppendOwn
import Derived.Test.YteefodibpjgicaaGreatA2
import Derived.Test.YteefodibpjgicaaGreatA6
namespace Go.Proofs.YteefodibpjgicaaGreat
open Go.RowKit
def cellsA (l : List Att) : List Value:=l.flatMap fun a => [.string a.name,.string a.value]
theorem cellsA_append (a b : List Att) : cellsA (a ++ b) = cellsA a ++ cellsA b:=by simp [cellsA]
theorem cellsA_cons (a : Att) (l : List Att) : cellsA (a :: l) = .string a.name :: .string a.value :: cellsA l:=rfl
theorem cellsA_one (l : List Att) : ∀ u ∈ cellsA l,u.oneCell' = true:=by
  intro u hu
  obtain ⟨a,_,h⟩:=List.mem_flatMap.1 hu
  simp at h
  rcases h with rfl | rfl <;> rfl
theorem cellsA_at (l : List Att) (i : Nat) (h : i < l.length) : (cellsA l)[i * 2]? = some (.string l[i].name) ∧ (cellsA l)[i * 2 + 1]? = some (.string l[i].value):=by
  induction l generalizing i with
  | nil => simp at h
  | cons a r ih =>
    cases i with
    | zero => simp [cellsA_cons]
    | succ i =>
      have:=ih i (by simpa using h)
      rw [cellsA_cons,show (i + 1) * 2 = i * 2 + 1 + 1 by omega]
      simpa using this
def Row (S : Nat → Prop) (w : World) (k : Nat) (v : Value) (n : Nat) (xs : List Value) : Prop :=
  xs.length = n * k ∧ ∃ (a : Option Addr) (cap : Nat),v = .slice a n cap ∧ n ≤ cap ∧ cap ≤ 9223372036854775807 ∧ (a = none → cap = 0) ∧
    (0 < n → ∃ b off,a = some ⟨b,off,none⟩ ∧ S b ∧ ∀ j u,xs[j]? = some u → w.cell? ⟨b,off + j,none⟩ = some u)
theorem Row.nil (S : Nat → Prop) (w : World) (k : Nat) : Row S w k (.slice none 0 0) 0 []:=⟨by simp,none,0,rfl,Nat.le_refl _,by omega,fun _ => rfl,fun h => absurd h (by omega)⟩
theorem Row.keep {S : Nat → Prop} {w w' : World} {k n : Nat} {v : Value} {xs : List Value} (h : Row S w k v n xs) (hk : ∀ b,S b → w'.heap[b]? = w.heap[b]?) : Row S w' k v n xs:=by
  obtain ⟨h0,a,cap,h1,h2,h3,h4,h5⟩:=h
  refine ⟨h0,a,cap,h1,h2,h3,h4,fun hn => ?_⟩
  obtain ⟨b,off,h6,h7,h8⟩:=h5 hn
  exact ⟨b,off,h6,h7,fun j u hu => (World.cell?_of_block (a:=⟨b,off + j,none⟩) (hk b h7)).trans (h8 j u hu)⟩
theorem Row.mono {S S' : Nat → Prop} {w : World} {k n : Nat} {v : Value} {xs : List Value} (h : Row S w k v n xs) (hs : ∀ b,S b → S' b) : Row S' w k v n xs:=by
  obtain ⟨h0,a,cap,h1,h2,h3,h4,h5⟩:=h
  refine ⟨h0,a,cap,h1,h2,h3,h4,fun hn => ?_⟩
  obtain ⟨b,off,h6,h7,h8⟩:=h5 hn
  exact ⟨b,off,h6,hs b h7,h8⟩
theorem Row.slice {S : Nat → Prop} {w : World} {k n : Nat} {v : Value} {xs : List Value} (h : Row S w k v n xs) : ∃ a cap,v = .slice a n cap:=by
  obtain ⟨_,a,cap,h1,_⟩:=h
  exact ⟨a,cap,h1⟩
theorem Row.own {w : World} {B : Nat} {e : TypeId} {k n : Nat} {v : Value} {xs : List Value} (h : w.ownsRow B e k v n xs) {S : Nat → Prop} (hs : ∀ g,v.ownBlock = some g → S g) : Row S w k v n xs:=by
  refine ⟨h.1,?_⟩
  have hc:=fun g hg => h.cells (g:=g) hg
  rcases h.2 with ⟨rfl,rfl⟩ | ⟨g,cap,cur,rfl,_,hg,h1,h2,h3,h4⟩
  · exact ⟨none,0,rfl,Nat.le_refl _,by omega,fun _ => rfl,fun h => absurd h (by omega)⟩
  · unfold maxLen at h2
    refine ⟨some ⟨g,0,none⟩,cap,rfl,h1,by omega,(fun h => by cases h),fun _ => ⟨g,0,rfl,hs g rfl,fun j u hu => ?_⟩⟩
    have h5:=hc g rfl j u hu
    rwa [add_plain'] at h5
def RepC (S : Nat → Prop) (w : World) : List Value → List Nd → Prop
  | xs,[] => xs = []
  | xs,.mk k n ats t ks :: r => ∃ va vk zs ys,xs = .int .i64 k :: .string n :: va :: .string t :: vk :: ys ∧ Row S w 2 va ats.length (cellsA ats) ∧ Row S w 5 vk ks.length zs ∧ RepC S w zs ks ∧ RepC S w ys r
termination_by _ l => SizeOf.sizeOf l
def RepN (S : Nat → Prop) (w : World) (v : Value) (l : List Nd) : Prop:=∃ xs,Row S w 5 v l.length xs ∧ RepC S w xs l
theorem RepC.nil (S : Nat → Prop) (w : World) : RepC S w [] []:=by rw [RepC]
theorem RepC.cons_iff {S : Nat → Prop} {w : World} {xs : List Value} {k : Int} {n : ByteArray} {ats : List Att} {t : ByteArray} {ks r : List Nd} :
    RepC S w xs (.mk k n ats t ks :: r) ↔ ∃ va vk ys,xs = .int .i64 k :: .string n :: va :: .string t :: vk :: ys ∧ Row S w 2 va ats.length (cellsA ats) ∧ RepN S w vk ks ∧ RepC S w ys r:=by
  rw [RepC]
  constructor
  · rintro ⟨va,vk,zs,ys,h1,h2,h3,h4,h5⟩; exact ⟨va,vk,ys,h1,h2,⟨zs,h3,h4⟩,h5⟩
  · rintro ⟨va,vk,ys,h1,h2,⟨zs,h3,h4⟩,h5⟩; exact ⟨va,vk,zs,ys,h1,h2,h3,h4,h5⟩
theorem RepN.nil (S : Nat → Prop) (w : World) : RepN S w (.slice none 0 0) []:=⟨[],Row.nil S w 5,RepC.nil S w⟩
theorem RepC.keep {S : Nat → Prop} {w w' : World} (hk : ∀ b,S b → w'.heap[b]? = w.heap[b]?) : ∀ (l : List Nd) (xs : List Value),RepC S w xs l → RepC S w' xs l:=by
  intro l
  induction l using Nd.ind with
  | h0 => intro xs h; rw [RepC] at h ⊢; exact h
  | h1 k n ats t ks r ih1 ih2 =>
    intro xs h
    obtain ⟨va,vk,ys,h1,h2,⟨zs,h3,h4⟩,h5⟩:=RepC.cons_iff.1 h
    exact RepC.cons_iff.2 ⟨va,vk,ys,h1,h2.keep hk,⟨zs,h3.keep hk,ih1 _ h4⟩,ih2 _ h5⟩
theorem RepC.mono {S S' : Nat → Prop} {w : World} (hs : ∀ b,S b → S' b) : ∀ (l : List Nd) (xs : List Value),RepC S w xs l → RepC S' w xs l:=by
  intro l
  induction l using Nd.ind with
  | h0 => intro xs h; rw [RepC] at h ⊢; exact h
  | h1 k n ats t ks r ih1 ih2 =>
    intro xs h
    obtain ⟨va,vk,ys,h1,h2,⟨zs,h3,h4⟩,h5⟩:=RepC.cons_iff.1 h
    exact RepC.cons_iff.2 ⟨va,vk,ys,h1,h2.mono hs,⟨zs,h3.mono hs,ih1 _ h4⟩,ih2 _ h5⟩
theorem RepN.keep {S : Nat → Prop} {w w' : World} {v : Value} {l : List Nd} (h : RepN S w v l) (hk : ∀ b,S b → w'.heap[b]? = w.heap[b]?) : RepN S w' v l:=by
  obtain ⟨xs,h1,h2⟩:=h
  exact ⟨xs,h1.keep hk,RepC.keep hk _ _ h2⟩
theorem RepN.mono {S S' : Nat → Prop} {w : World} {v : Value} {l : List Nd} (h : RepN S w v l) (hs : ∀ b,S b → S' b) : RepN S' w v l:=by
  obtain ⟨xs,h1,h2⟩:=h
  exact ⟨xs,h1.mono hs,RepC.mono hs _ _ h2⟩
theorem RepC.append {S : Nat → Prop} {w : World} {m : List Nd} {ys : List Value} (h : RepC S w ys m) : ∀ (l : List Nd) (xs : List Value),RepC S w xs l → RepC S w (xs ++ ys) (l ++ m):=by
  intro l
  induction l using Nd.ind with
  | h0 => intro xs h'; rw [RepC] at h'; subst h'; exact h
  | h1 k n ats t ks r _ ih2 =>
    intro xs h'
    obtain ⟨va,vk,zs,rfl,h2,h3,h5⟩:=RepC.cons_iff.1 h'
    exact RepC.cons_iff.2 ⟨va,vk,zs ++ ys,rfl,h2,h3,ih2 _ h5⟩
theorem RepC.drop {S : Nat → Prop} {w : World} : ∀ (l : List Nd) (xs : List Value) (i : Nat),RepC S w xs l → RepC S w (xs.drop (i * 5)) (l.drop i):=by
  intro l
  induction l using Nd.ind with
  | h0 => intro xs i h; rw [RepC] at h; subst h; simp [RepC.nil]
  | h1 k n ats t ks r _ ih2 =>
    intro xs i h
    cases i with
    | zero => simpa using h
    | succ i =>
      obtain ⟨va,vk,ys,rfl,_,_,h5⟩:=RepC.cons_iff.1 h
      rw [show (i + 1) * 5 = i * 5 + 1 + 1 + 1 + 1 + 1 by omega]
      simpa using ih2 ys i h5
structure RepV (S : Nat → Prop) (w : World) (x : Nd) (va vk : Value) : Prop where
  at_ : Row S w 2 va x.attrs.length (cellsA x.attrs)
  kids : RepN S w vk x.kids
theorem RepV.keep {S : Nat → Prop} {w w' : World} {x : Nd} {va vk : Value} (h : RepV S w x va vk) (hk : ∀ b,S b → w'.heap[b]? = w.heap[b]?) : RepV S w' x va vk:=⟨h.1.keep hk,h.2.keep hk⟩
theorem RepV.mono {S S' : Nat → Prop} {w : World} {x : Nd} {va vk : Value} (h : RepV S w x va vk) (hs : ∀ b,S b → S' b) : RepV S' w x va vk:=⟨h.1.mono hs,h.2.mono hs⟩
abbrev Nd.val (x : Nd) (va vk : Value) : Value:=.agg #[.int .i64 x.kind,.string x.name,va,.string x.text,vk]
abbrev Nd.cells (x : Nd) (va vk : Value) : List Value:=[.int .i64 x.kind,.string x.name,va,.string x.text,vk]
theorem RepC.single {S : Nat → Prop} {w : World} {x : Nd} {va vk : Value} (h : RepV S w x va vk) : RepC S w (x.cells va vk) [x]:=by
  cases x
  exact RepC.cons_iff.2 ⟨va,vk,[],rfl,h.1,h.2,RepC.nil S w⟩
theorem RepC.at_ {S : Nat → Prop} {w : World} {l : List Nd} {xs : List Value} (h : RepC S w xs l) (i : Nat) (hi : i < l.length) :
    ∃ va vk,xs[i * 5]? = some (.int .i64 l[i].kind) ∧ xs[i * 5 + 1]? = some (.string l[i].name) ∧ xs[i * 5 + 2]? = some va ∧ xs[i * 5 + 3]? = some (.string l[i].text) ∧ xs[i * 5 + 4]? = some vk ∧ RepV S w l[i] va vk:=by
  have h1:=RepC.drop _ _ i h
  rw [List.drop_eq_getElem_cons hi,Nd.eta l[i]] at h1
  obtain ⟨va,vk,ys,h2,h3,h4,_⟩:=RepC.cons_iff.1 h1
  have h5 : ∀ j,xs[i * 5 + j]? = (xs.drop (i * 5))[j]?:=fun j => by rw [List.getElem?_drop]
  refine ⟨va,vk,?_,?_,?_,?_,?_,⟨h3,h4⟩⟩
  · have:=h5 0; rw [h2] at this; simpa using this
  · rw [h5,h2]; rfl
  · rw [h5,h2]; rfl
  · rw [h5,h2]; rfl
  · rw [h5,h2]; rfl
theorem RepN.at_ {S : Nat → Prop} {w : World} {a : Option Addr} {n cap : Nat} {l : List Nd} (h : RepN S w (.slice a n cap) l) (i : Nat) (hi : i < l.length) :
    ∃ b off va vk,a = some ⟨b,off,none⟩ ∧ S b ∧ w.cell? ⟨b,off + i * 5,none⟩ = some (.int .i64 l[i].kind) ∧ w.cell? ⟨b,off + i * 5 + 1,none⟩ = some (.string l[i].name) ∧ w.cell? ⟨b,off + i * 5 + 2,none⟩ = some va ∧
      w.cell? ⟨b,off + i * 5 + 3,none⟩ = some (.string l[i].text) ∧ w.cell? ⟨b,off + i * 5 + 4,none⟩ = some vk ∧ RepV S w l[i] va vk:=by
  obtain ⟨xs,⟨h0,a',cap',h1,h2,h3,h4,h5⟩,h6⟩:=h
  cases h1
  obtain ⟨b,off,rfl,h7,h8⟩:=h5 (by omega)
  obtain ⟨va,vk,c0,c1,c2,c3,c4,hv⟩:=h6.at_ i hi
  exact ⟨b,off,va,vk,rfl,h7,h8 _ _ c0,h8 _ _ c1,h8 _ _ c2,h8 _ _ c3,h8 _ _ c4,hv⟩
theorem RepN.len {S : Nat → Prop} {w : World} {a : Option Addr} {n cap : Nat} {l : List Nd} (h : RepN S w (.slice a n cap) l) : n = l.length ∧ n ≤ cap ∧ cap ≤ 9223372036854775807:=by
  obtain ⟨xs,⟨h0,a',cap',h1,h2,h3,h4,h5⟩,h6⟩:=h
  cases h1
  exact ⟨rfl,h2,h3⟩
theorem RepN.slice {S : Nat → Prop} {w : World} {v : Value} {l : List Nd} (h : RepN S w v l) : ∃ a cap,v = .slice a l.length cap:=by
  obtain ⟨xs,h1,h6⟩:=h
  exact h1.slice
theorem Row.atA {S : Nat → Prop} {w : World} {a : Option Addr} {n cap : Nat} {l : List Att} (h : Row S w 2 (.slice a n cap) l.length (cellsA l)) (i : Nat) (hi : i < l.length) :
    ∃ b off,a = some ⟨b,off,none⟩ ∧ S b ∧ w.cell? ⟨b,off + i * 2,none⟩ = some (.string l[i].name) ∧ w.cell? ⟨b,off + i * 2 + 1,none⟩ = some (.string l[i].value):=by
  obtain ⟨h0,a',cap',h1,h2,h3,h4,h5⟩:=h
  cases h1
  obtain ⟨b,off,rfl,h7,h8⟩:=h5 (by omega)
  obtain ⟨c0,c1⟩:=cellsA_at l i hi
  exact ⟨b,off,rfl,h7,h8 _ _ c0,h8 _ _ c1⟩
theorem Row.len {S : Nat → Prop} {w : World} {a : Option Addr} {n m k cap : Nat} {xs : List Value} (h : Row S w k (.slice a n cap) m xs) : n = m ∧ n ≤ cap ∧ cap ≤ 9223372036854775807:=by
  obtain ⟨h0,a',cap',h1,h2,h3,h4,h5⟩:=h
  cases h1
  exact ⟨rfl,h2,h3⟩
def Box (w : World) (g : Nat) (t : TypeId) (cs : List Value) : Prop:=w.heap[g]? = some (.cells cs.toArray t (0,0))
section
variable {w w' : World} {g : Nat} {t : TypeId} {cs : List Value}
theorem Box.new (w : World) (t : TypeId) (cs : List Value) : Box (w.alloc (.cells cs.toArray t)) w.heap.size t cs:=heap_alloc_new w _
theorem Box.lt (h : Box w g t cs) : g < w.heap.size:=(Array.getElem?_eq_some_iff.1 h).1
theorem Box.cell (h : Box w g t cs) {i : Nat} {v : Value} (hv : cs[i]? = some v) : w.cell? ⟨g,i,none⟩ = some v:=by
  rw [cell_of_row w g i cs.toArray t (0,0) h]
  simpa using hv
theorem Box.free (h : Box w g t cs) (i : Nat) : w.frozen? ⟨g,i,none⟩ = false:=by
  unfold Box at h
  simp [World.frozen?,h]
theorem Box.keep (h : Box w g t cs) (hk : w'.heap[g]? = w.heap[g]?) : Box w' g t cs:=hk.trans h
theorem Box.below {B : Nat} (h : Box w g t cs) (hb : Below B w w') (hg : g < B) : Box w' g t cs:=h.keep (hb.block g hg)
theorem Box.alloc (h : Box w g t cs) (o : Obj) : Box (w.alloc o) g t cs:=h.keep (Below.heap_alloc w o g h.lt)
theorem Box.far (h : Box w g t cs) {p : Addr} (hp : g ≠ p.block) (u : Value) : Box (w.setCell p u) g t cs:=h.keep (Below.heap_setCell w p u g hp)
theorem Box.set (h : Box w g t cs) (i : Nat) (u : Value) : Box (w.setCell ⟨g,i,none⟩ u) g t (cs.set i u):=by
  unfold Box at h ⊢
  simp [World.setCell,Array.getElem?_modify,h]
end
end Go.Proofs.YteefodibpjgicaaGreat
