/- Texts joined: Bld1. -/
import Derived.Maps.OwnSet
import Derived.Maps.AppendAt
import Derived.Shelf.RegionOpenPlain
import Derived.Deep.RegionHeld3
import Derived.Deep.AppendLies
import Derived.RegionTactic
import Derived.BigRegion
import Derived.Test.YteefodibpjgicaaGreatA11
import Derived.Test.YteefodibpjgicaaGreatA18
import Derived.Test.YteefodibpjgicaaGreatA24
import Derived.Test.YteefodibpjgicaaGreatA26
import Derived.Test.YteefodibpjgicaaGreatA27
namespace Go.Proofs.YteefodibpjgicaaGreat
open Go.RowKit Go.Maps
structure FV where
  x : Nd
  va : Value
  vk : Value
  nx : Nat
def FV.cells (f : FV) : List Value:=f.x.cells f.va f.vk ++ [.int .i64 (f.nx : Int)]
def cellsF (fs : List FV) : List Value:=fs.flatMap FV.cells
theorem cellsF_append (a b : List FV) : cellsF (a ++ b) = cellsF a ++ cellsF b:=by simp [cellsF]
theorem cellsF_one (f : FV) : cellsF [f] = f.cells:=by simp [cellsF]
theorem cellsF_len (l : List FV) : (cellsF l).length = l.length * 6:=by
  induction l with
  | nil => rfl
  | cons a r ih => simp only [cellsF,List.flatMap_cons,List.length_append,List.length_cons] at ih ⊢; rw [ih]; simp [FV.cells]; omega
theorem cellsF_last (A : List FV) (f : FV) (j : Nat) (hj : j < 6) : (cellsF (A ++ [f]))[A.length * 6 + j]? = f.cells[j]?:=by
  rw [cellsF_append,cellsF_one,List.getElem?_append_right (by rw [cellsF_len]; omega),cellsF_len]
  congr 1
  omega
def roleB (g mb : Nat) (vo vt : Value) (fs : List FV) : Nat → Option Nat
  | 0 => some g
  | 1 => some mb
  | 2 => vo.ownBlock
  | 3 => vt.ownBlock
  | i + 4 => (fs[i]?).bind fun f => f.vk.ownBlock
def idleB (F : Nat → Prop) (g mb : Nat) (vo vt : Value) (fs : List FV) (b : Nat) : Prop:=F b ∧ ∀ i,roleB g mb vo vt fs i ≠ some b
structure Bld (F : Nat → Prop) (w : World) (g mb : Nat) (vo vt pt : Value) (fs : List FV) (tx : List UInt8) (n : Nat) (D : DataW Unit) : Prop where
  box : Box w g 193 [vo,pt,vt,.map (some mb)]
  ptr : pt = .pointer none ∨ pt = .pointer (some ⟨g,1,none⟩)
  row : w.ownsRow 0 189 6 vo fs.length (cellsF fs)
  text : w.ownsRowF 0 5 1 vt tx.length (u8s tx)
  map : w.ownsMap Tryz.prog 9 (plainElem (H:=Unit) Tryz.prog 3) mb n D
  kids : ∀ f ∈ fs,∃ xs,w.ownsRow 0 41 5 f.vk f.x.kids.length xs ∧ RepC (idleB F g mb vo vt fs) w xs f.x.kids
  atts : ∀ f ∈ fs,Row (idleB F g mb vo vt fs) w 2 f.va f.x.attrs.length (cellsA f.x.attrs)
  inj : ∀ i j c,roleB g mb vo vt fs i = some c → roleB g mb vo vt fs j = some c → i = j
  sub : ∀ i c,roleB g mb vo vt fs i = some c → F c
  lt : ∀ b,F b → b < w.heap.size
def grw (F : Nat → Prop) (w w' : World) (b : Nat) : Prop:=F b ∨ (w.heap.size ≤ b ∧ b < w'.heap.size)
structure Out (F : Nat → Prop) (w w' : World) : Prop where
  os : w'.os = w.os
  tape : w'.tape = w.tape
  output : w'.output = w.output
  size : w.heap.size ≤ w'.heap.size
  block : ∀ b,b < w.heap.size → ¬ F b → w'.heap[b]? = w.heap[b]?
theorem Out.refl (F : Nat → Prop) (w : World) : Out F w w:=⟨rfl,rfl,rfl,Nat.le_refl _,fun _ _ _ => rfl⟩
theorem Out.trans {F : Nat → Prop} {w w1 w2 : World} (h : Out F w w1) (k : Out (grw F w w1) w1 w2) : Out F w w2 :=
  ⟨k.os.trans h.os,k.tape.trans h.tape,k.output.trans h.output,Nat.le_trans h.size k.size,fun b hb hF => (k.block b (Nat.lt_of_lt_of_le hb h.size) (fun e => e.elim hF (fun e => by omega))).trans (h.block b hb hF)⟩
theorem Out.below {F : Nat → Prop} {w w1 w2 : World} (h : Out F w w1) (k : Below w1.heap.size w1 w2) : Out F w w2 :=
  ⟨k.os.trans h.os,k.tape.trans h.tape,k.output.trans h.output,Nat.le_trans h.size k.size,fun b hb hF => (k.block b (Nat.lt_of_lt_of_le hb h.size)).trans (h.block b hb hF)⟩
theorem grw_grw {F : Nat → Prop} {w w1 w2 : World} (h1 : w.heap.size ≤ w1.heap.size) (h2 : w1.heap.size ≤ w2.heap.size) (b : Nat) : grw (grw F w w1) w1 w2 b ↔ grw F w w2 b:=by
  unfold grw
  constructor
  · rintro ((h | h) | h)
    · exact .inl h
    · exact .inr ⟨h.1,by omega⟩
    · exact .inr ⟨by omega,h.2⟩
  · rintro (h | h)
    · exact .inl (.inl h)
    · by_cases hb : b < w1.heap.size
      · exact .inl (.inr ⟨h.1,hb⟩)
      · exact .inr ⟨by omega,h.2⟩
section
variable {F F' : Nat → Prop} {w w' : World} {g mb : Nat} {vo vt pt : Value} {fs : List FV} {tx : List UInt8} {n : Nat} {D : DataW Unit}
theorem own_keepW {B : Nat} {e : TypeId} {k m : Nat} {v : Value} {xs : List Value} (h : w.ownsRow B e k v m xs) (hk : ∀ c,v.ownBlock = some c → w'.heap[c]? = w.heap[c]?) : w'.ownsRow B e k v m xs:=by
  refine ⟨h.1,?_⟩
  rcases h.2 with h1 | ⟨c,cap,cur,rfl,h1,h2,h3⟩
  · exact .inl h1
  · exact .inr ⟨c,cap,cur,rfl,h1,(hk c rfl).trans h2,h3⟩
theorem ownF_keepW {B : Nat} {e : TypeId} {k m : Nat} {v : Value} {xs : List Value} (h : w.ownsRowF B e k v m xs) (hk : ∀ c,v.ownBlock = some c → w'.heap[c]? = w.heap[c]?) : w'.ownsRowF B e k v m xs:=by
  refine ⟨h.1,?_⟩
  rcases h.2 with h1 | ⟨c,cap,cur,fz,rfl,h1,h2,h3⟩
  · exact .inl h1
  · exact .inr ⟨c,cap,cur,fz,rfl,h1,(hk c rfl).trans h2,h3⟩
theorem map_keepW {k : TypeId} {R : Value → Option (DataW Unit × List MemPlace)} {b m : Nat} {E : DataW Unit} (h : w.ownsMap Tryz.prog k R b m E) (hk : w'.heap[b]? = w.heap[b]?) : w'.ownsMap Tryz.prog k R b m E:=by
  obtain ⟨es,clock,h1,h2⟩:=h
  exact ⟨es,clock,hk.trans h1,h2⟩
theorem Bld.role_lt (h : Bld F w g mb vo vt pt fs tx n D) {i c : Nat} (hi : roleB g mb vo vt fs i = some c) : c < w.heap.size:=h.lt c (h.sub i c hi)
theorem Bld.kid_role {i : Nat} {f : FV} (hf : fs[i]? = some f) : roleB g mb vo vt fs (i + 4) = f.vk.ownBlock:=by
  show (fs[i]?).bind _ = _
  rw [hf]; rfl
theorem Bld.keep (h : Bld F w g mb vo vt pt fs tx n D) (hF : ∀ b,F b → F' b) (hlt : ∀ b,F' b → b < w'.heap.size) (hk : ∀ b,F b → w'.heap[b]? = w.heap[b]?) : Bld F' w' g mb vo vt pt fs tx n D:=by
  have hi : ∀ b,idleB F g mb vo vt fs b → idleB F' g mb vo vt fs b:=fun b hb => ⟨hF b hb.1,hb.2⟩
  have hr : ∀ i c,roleB g mb vo vt fs i = some c → w'.heap[c]? = w.heap[c]?:=fun i c e => hk c (h.sub i c e)
  refine ⟨h.box.keep (hr 0 g rfl),h.ptr,own_keepW h.row (fun c e => hr 2 c e),ownF_keepW h.text (fun c e => hr 3 c e),map_keepW h.map (hr 1 mb rfl),fun f hf => ?_,fun f hf => ?_,h.inj,fun i c e => hF c (h.sub i c e),hlt⟩
  · obtain ⟨xs,h1,h2⟩:=h.kids f hf
    obtain ⟨i,hfi⟩:=List.mem_iff_getElem?.1 hf
    refine ⟨xs,own_keepW h1 (fun c e => hr (i + 4) c (by rw [Bld.kid_role hfi]; exact e)),RepC.mono hi _ _ (RepC.keep (fun b hb => hk b hb.1) _ _ h2)⟩
  · exact ((h.atts f hf).keep (fun b hb => hk b hb.1)).mono hi
theorem Bld.below (h : Bld F w g mb vo vt pt fs tx n D) (hb : Below w.heap.size w w') : Bld F w' g mb vo vt pt fs tx n D :=
  h.keep (fun _ h => h) (fun b hb' => Nat.lt_of_lt_of_le (h.lt b hb') hb.size) (fun b hb' => hb.block b (h.lt b hb'))
theorem Bld.grow (h : Bld F w g mb vo vt pt fs tx n D) (hb : Below w.heap.size w w') : Bld (grw F w w') w' g mb vo vt pt fs tx n D :=
  h.keep (fun _ h => .inl h) (fun b hb' => hb'.elim (fun e => Nat.lt_of_lt_of_le (h.lt b e) hb.size) (fun e => e.2)) (fun b hb' => hb.block b (h.lt b hb'))
theorem Bld.drew (h : Bld F w g mb vo vt pt fs tx n D) : Bld F w.drew g mb vo vt pt fs tx n D:=h.keep (fun _ h => h) h.lt (fun _ _ => rfl)
theorem Bld.iff (h : Bld F w g mb vo vt pt fs tx n D) (hF : ∀ b,F b ↔ F' b) : Bld F' w g mb vo vt pt fs tx n D:=h.keep (fun b => (hF b).1) (fun b hb => h.lt b ((hF b).2 hb)) (fun _ _ => rfl)
theorem Bld.open_slice (h : Bld F w g mb vo vt pt fs tx n D) (hne : fs ≠ []) : ∃ go cap,vo = .slice (some ⟨go,0,none⟩) fs.length cap ∧ fs.length ≤ cap ∧ cap ≤ 9223372036854775807 ∧ ∀ j u,(cellsF fs)[j]? = some u → w.cell? ⟨go,j,none⟩ = some u:=by
  have hc:=fun c hc => h.row.cells (g:=c) hc
  rcases h.row.2 with ⟨_,h0⟩ | ⟨go,cap,cur,hv,_,h2,h3,h4,_⟩
  · exact absurd (List.eq_nil_of_length_eq_zero h0) hne
  · subst hv
    unfold maxLen at h4
    refine ⟨go,cap,rfl,h3,by omega,fun j u hu => ?_⟩
    have h5:=hc go rfl j u hu
    rwa [add_plain',Nat.zero_add] at h5
end
set_option maxHeartbeats 2000000 in
set_option maxRecDepth 100000 in
theorem bInner {w : World} {g go m cap : Nat} (k0 : w.cell? ⟨g,0,none⟩ = some (.slice (some ⟨go,0,none⟩) (m + 1) cap)) (hA : m ≤ 1000000) :
    Calls Tryz.prog 220 #[.pointer (some ⟨g,0,none⟩)] w fun e w' => e = .returned (.pointer (some ⟨go,m * 6,none⟩)) ∧ w' = w.drew:=by
  have hA0 : (0 : Int) ≤ (m : Int):=by omega
  have hA1 : (m : Int) < (m : Int) + 1:=by omega
  go_enter Tryz.func220,Tryz.ntmps220
  go_wp2_with fail
  go_region
  go_wp2_with fail
  go_ret
  exact ⟨rfl,rfl⟩
theorem turn_inj {r r' : Nat → Option Nat} {k z : Nat} (hinj : ∀ i j c,r i = some c → r j = some c → i = j) (hlt : ∀ i c,r i = some c → c < z) (ho : ∀ i,i ≠ k → r' i = r i) (hk : ∀ c,r' k = some c → r k = some c ∨ z ≤ c) : ∀ i j c,r' i = some c → r' j = some c → i = j:=by
  intro i j c hi hj
  by_cases e1 : i = k
  · by_cases e2 : j = k
    · omega
    · rw [ho j e2] at hj
      rw [e1] at hi
      rcases hk c hi with h | h
      · exact e1.trans (hinj k j c h hj)
      · have:=hlt j c hj; omega
  · by_cases e2 : j = k
    · rw [ho i e1] at hi
      rw [e2] at hj
      rcases hk c hj with h | h
      · exact (hinj i k c hi h).trans e2.symm
      · have:=hlt i c hi; omega
    · rw [ho i e1] at hi
      rw [ho j e2] at hj
      exact hinj i j c hi hj
theorem turn_idle {r r' : Nat → Option Nat} {k z b : Nat} (ho : ∀ i,i ≠ k → r' i = r i) (hk : ∀ c,r' k = some c → r k = some c ∨ z ≤ c) (hb : b < z) (h : ∀ i,r i ≠ some b) : ∀ i,r' i ≠ some b:=by
  intro i e
  by_cases e1 : i = k
  · rw [e1] at e
    rcases hk b e with h' | h'
    · exact h k h'
    · omega
  · rw [ho i e1] at e
    exact h i e
theorem turn_sub {F : Nat → Prop} {r r' : Nat → Option Nat} {k : Nat} {w w' : World} (hsub : ∀ i c,r i = some c → F c) (ho : ∀ i,i ≠ k → r' i = r i) (hk : ∀ c,r' k = some c → r k = some c ∨ w.heap.size ≤ c) (hlt : ∀ c,r' k = some c → c < w'.heap.size) : ∀ i c,r' i = some c → grw F w w' c:=by
  intro i c e
  by_cases e1 : i = k
  · rw [e1] at e
    rcases hk c e with h | h
    · exact .inl (hsub k c h)
    · exact .inr ⟨h,hlt c e⟩
  · rw [ho i e1] at e
    exact .inl (hsub i c e)
theorem grw_lt {F : Nat → Prop} {w w' : World} (hlt : ∀ b,F b → b < w.heap.size) (hz : w.heap.size ≤ w'.heap.size) : ∀ b,grw F w w' b → b < w'.heap.size:=fun b h => h.elim (fun h => Nat.lt_of_lt_of_le (hlt b h) hz) (fun h => h.2)
theorem role_snoc (g mb : Nat) (vo vt : Value) (A : List FV) (f f' : FV) : ∀ i,i ≠ A.length + 4 → roleB g mb vo vt (A ++ [f']) i = roleB g mb vo vt (A ++ [f]) i:=by
  intro i hi
  match i with
  | 0 | 1 | 2 | 3 => rfl
  | i + 4 =>
    show ((A ++ [f'])[i]?).bind _ = ((A ++ [f])[i]?).bind _
    congr 1
    rw [List.getElem?_append,List.getElem?_append]
    split
    · rfl
    · rw [List.getElem?_eq_none (by simp; omega),List.getElem?_eq_none (by simp; omega)]
theorem role_last (g mb : Nat) (vo vt : Value) (A : List FV) (f : FV) : roleB g mb vo vt (A ++ [f]) (A.length + 4) = f.vk.ownBlock:=by
  show ((A ++ [f])[A.length]?).bind _ = _
  rw [List.getElem?_append_right (Nat.le_refl _),Nat.sub_self]
  rfl
def Carry (I I' : Nat → Prop) (w w' : World) : Prop:=∀ b,I b → I' b ∧ w'.heap[b]? = w.heap[b]?
theorem Carry.rep {I I' : Nat → Prop} {w w' : World} (h : Carry I I' w w') {x : Nd} {va vk : Value} (hr : RepV I w x va vk) : RepV I' w' x va vk:=(hr.keep (fun b hb => (h b hb).2)).mono (fun b hb => (h b hb).1)
theorem Carry.trans {I I' I'' : Nat → Prop} {w w' w'' : World} (h : Carry I I' w w') (k : Carry I' I'' w' w'') : Carry I I'' w w'':=fun b hb => ⟨(k b (h b hb).1).1,(k b (h b hb).1).2.trans (h b hb).2⟩
section
variable {F F' : Nat → Prop} {w w' : World} {g mb : Nat} {vo vt pt : Value} {fs : List FV} {tx : List UInt8} {n : Nat} {D : DataW Unit}
theorem Bld.carry_below (h : Bld F w g mb vo vt pt fs tx n D) (hb : Below w.heap.size w w') : Carry (idleB F g mb vo vt fs) (idleB (grw F w w') g mb vo vt fs) w w':=fun b hi => ⟨⟨.inl hi.1,hi.2⟩,hb.block b (h.lt b hi.1)⟩
theorem Bld.kid {A : List FV} {f : FV} {go cap gg c2 : Nat} {x : Nd} {va vk : Value} {xs : List Value} {w2 : World} (h : Bld F w g mb vo vt pt (A ++ [f]) tx n D) (hvo : vo = .slice (some ⟨go,0,none⟩) (A.length + 1) cap)
    (hx : RepV (idleB F g mb vo vt (A ++ [f])) w x va vk) (hrep : RepC (idleB F g mb vo vt (A ++ [f])) w xs f.x.kids) (hgrow : w.grownBy w2 f.vk.ownBlock)
    (hown : w2.ownsRow 0 41 5 (.slice (some ⟨gg,0,none⟩) (f.x.kids.length + 1) c2) (f.x.kids.length + 1) (xs ++ x.cells va vk)) (hat : f.vk.ownBlock = some gg ∨ w.heap.size ≤ gg) :
    Bld (grw F w (w2.setCell ⟨go,A.length * 6 + 4,none⟩ (.slice (some ⟨gg,0,none⟩) (f.x.kids.length + 1) c2))) (w2.setCell ⟨go,A.length * 6 + 4,none⟩ (.slice (some ⟨gg,0,none⟩) (f.x.kids.length + 1) c2)) g mb vo vt pt (A ++ [⟨M7.wk f.x (f.x.kids ++ [x]),f.va,.slice (some ⟨gg,0,none⟩) (f.x.kids.length + 1) c2,f.nx⟩]) tx n D ∧
    Out F w (w2.setCell ⟨go,A.length * 6 + 4,none⟩ (.slice (some ⟨gg,0,none⟩) (f.x.kids.length + 1) c2)) ∧
    Carry (idleB F g mb vo vt (A ++ [f])) (idleB (grw F w (w2.setCell ⟨go,A.length * 6 + 4,none⟩ (.slice (some ⟨gg,0,none⟩) (f.x.kids.length + 1) c2))) g mb vo vt (A ++ [⟨M7.wk f.x (f.x.kids ++ [x]),f.va,.slice (some ⟨gg,0,none⟩) (f.x.kids.length + 1) c2,f.nx⟩])) w (w2.setCell ⟨go,A.length * 6 + 4,none⟩ (.slice (some ⟨gg,0,none⟩) (f.x.kids.length + 1) c2)):=by
  obtain ⟨w3,hw3⟩ : ∃ W,W = w2.setCell ⟨go,A.length * 6 + 4,none⟩ (.slice (some ⟨gg,0,none⟩) (f.x.kids.length + 1) c2):=⟨_,rfl⟩
  obtain ⟨f',hf'⟩ : ∃ f' : FV,f' = ⟨M7.wk f.x (f.x.kids ++ [x]),f.va,.slice (some ⟨gg,0,none⟩) (f.x.kids.length + 1) c2,f.nx⟩:=⟨_,rfl⟩
  rw [← hw3,← hf']
  have hz2 : w.heap.size ≤ w2.heap.size:=hgrow.size
  have hz3 : w3.heap.size = w2.heap.size:=by rw [hw3]; simp
  have rgo : roleB g mb vo vt (A ++ [f]) 2 = some go:=by rw [hvo]; rfl
  have rk : roleB g mb vo vt (A ++ [f]) (A.length + 4) = f.vk.ownBlock:=role_last ..
  have rk' : roleB g mb vo vt (A ++ [f']) (A.length + 4) = some gg:=by rw [role_last,hf']; rfl
  have ho:=role_snoc g mb vo vt A f f'
  have hk : ∀ c,roleB g mb vo vt (A ++ [f']) (A.length + 4) = some c → roleB g mb vo vt (A ++ [f]) (A.length + 4) = some c ∨ w.heap.size ≤ c:=fun c e => by
    rw [rk'] at e
    cases e
    rw [rk]; exact hat
  have hsame : ∀ b,b < w.heap.size → f.vk.ownBlock ≠ some b → b ≠ go → w3.heap[b]? = w.heap[b]?:=fun b hb h1 h2 => by
    rw [hw3,Below.heap_setCell _ _ _ _ h2]
    exact hgrow.block b hb (fun e => h1 e.symm)
  have hsr : ∀ i c,roleB g mb vo vt (A ++ [f]) i = some c → i ≠ 2 → i ≠ A.length + 4 → w3.heap[c]? = w.heap[c]?:=fun i c e h2 hk4 =>
    hsame c (h.role_lt e) (fun e2 => hk4 (h.inj _ _ c e (rk.trans e2))) (fun e2 => h2 (h.inj i 2 c e (by rw [rgo,e2])))
  have hgl : gg < w3.heap.size:=by have:=hown.lt gg rfl; omega
  have hne : gg ≠ go:=fun e => by
    rcases hat with h1 | h1
    · have:=h.inj _ _ gg (rk.trans h1) (by rw [rgo,e]); omega
    · have:=h.role_lt rgo; omega
  have hcar : Carry (idleB F g mb vo vt (A ++ [f])) (idleB (grw F w w3) g mb vo vt (A ++ [f'])) w w3:=fun b hb =>
    ⟨⟨.inl hb.1,turn_idle ho hk (h.lt b hb.1) hb.2⟩,hsame b (h.lt b hb.1) (fun e => hb.2 _ (rk.trans e)) (fun e => hb.2 2 (by rw [rgo,e]))⟩
  have hrow3 : w3.ownsRow 0 189 6 vo (A ++ [f']).length (cellsF (A ++ [f'])):=by
    have r2 : w2.ownsRow 0 189 6 (.slice (some ⟨go,0,none⟩) (A.length + 1) cap) (A.length + 1) (cellsF (A ++ [f])):=by
      have:=own_keepW (w':=w2) h.row (fun c e => hgrow.block c (h.role_lt (i:=2) e) (fun e2 => by have:=h.inj 2 (A.length + 4) c e (rk.trans e2.symm); omega))
      rw [hvo] at this
      simpa using this
    have r3:=(r2.stored (A.length * 6 + 4) (.slice (some ⟨gg,0,none⟩) (f.x.kids.length + 1) c2)).1
    rw [← hw3] at r3
    have e : (cellsF (A ++ [f])).set (A.length * 6 + 4) (.slice (some ⟨gg,0,none⟩) (f.x.kids.length + 1) c2) = cellsF (A ++ [f']):=by
      rw [cellsF_append,cellsF_append,cellsF_one,cellsF_one,List.set_append_right _ _ (by rw [cellsF_len]; omega),cellsF_len,hf']
      rw [show A.length * 6 + 4 - A.length * 6 = 4 by omega]
      rfl
    rw [e] at r3
    rw [hvo]
    simpa using r3
  refine ⟨⟨h.box.keep (hsr 0 g rfl (by decide) (by omega)),h.ptr,hrow3,ownF_keepW h.text (fun c e => hsr 3 c e (by decide) (by omega)),map_keepW h.map (hsr 1 mb rfl (by decide) (by omega)),fun q hq => ?_,fun q hq => ?_,turn_inj h.inj (fun _ _ e => h.role_lt e) ho hk,turn_sub h.sub ho hk (fun c e => by rw [rk'] at e; cases e; exact hgl),grw_lt h.lt (by omega)⟩,⟨?_,?_,?_,by omega,fun b hb hF => hsame b hb (fun e => hF (h.sub _ b (rk.trans e))) (fun e => hF (by rw [e]; exact h.sub 2 go rgo))⟩,hcar⟩
  · rcases List.mem_append.1 hq with hq | hq
    · obtain ⟨ys,h1,h2⟩:=h.kids q (List.mem_append_left _ hq)
      obtain ⟨i,hi⟩:=List.mem_iff_getElem?.1 hq
      have hil:=(List.getElem?_eq_some_iff.1 hi).1
      have hi2 : (A ++ [f])[i]? = some q:=by rw [List.getElem?_append_left hil]; exact hi
      refine ⟨ys,own_keepW h1 (fun c e => hsr (i + 4) c (by rw [Bld.kid_role hi2]; exact e) (by omega) (by omega)),RepC.mono (fun b hb => (hcar b hb).1) _ _ (RepC.keep (fun b hb => (hcar b hb).2) _ _ h2)⟩
    · rw [List.mem_singleton.1 hq,hf']
      refine ⟨xs ++ x.cells va vk,?_,?_⟩
      · have : (M7.wk f.x (f.x.kids ++ [x])).kids.length = f.x.kids.length + 1:=by show (f.x.kids ++ [x]).length = _; simp
        show w3.ownsRow 0 41 5 _ (M7.wk f.x (f.x.kids ++ [x])).kids.length _
        rw [this]
        exact own_keepW hown (fun c e => by
          have e : gg = c:=by simpa [Value.ownBlock] using e
          rw [hw3,Below.heap_setCell _ _ _ _ (by show c ≠ go; omega)])
      · have q1 : RepC (idleB (grw F w w3) g mb vo vt (A ++ [f'])) w3 xs f.x.kids:=RepC.mono (fun b hb => (hcar b hb).1) _ _ (RepC.keep (fun b hb => (hcar b hb).2) _ _ hrep)
        have q2:=RepC.append (RepC.single (hcar.rep hx)) _ _ q1
        rw [hf'] at q2
        exact q2
  · have q1 : ∀ p ∈ A ++ [f],Row (idleB (grw F w w3) g mb vo vt (A ++ [f'])) w3 2 p.va p.x.attrs.length (cellsA p.x.attrs):=fun p hp => ((h.atts p hp).keep (fun b hb => (hcar b hb).2)).mono (fun b hb => (hcar b hb).1)
    rcases List.mem_append.1 hq with hq | hq
    · exact q1 q (List.mem_append_left _ hq)
    · have:=q1 f (by simp)
      rw [List.mem_singleton.1 hq]
      rw [hf'] at this ⊢
      exact this
  · rw [hw3]; exact hgrow.os
  · rw [hw3]; exact hgrow.tape
  · rw [hw3]; exact hgrow.output
theorem Bld.txt {vt' pt' : Value} {tx' : List UInt8} (h : Bld F w g mb vo vt pt fs tx n D) (hbox : Box w' g 193 [vo,pt',vt',.map (some mb)]) (hp : pt' = .pointer none ∨ pt' = .pointer (some ⟨g,1,none⟩))
    (hown : w'.ownsRowF 0 5 1 vt' tx'.length (u8s tx')) (hat : ∀ c,vt'.ownBlock = some c → vt.ownBlock = some c ∨ w.heap.size ≤ c) (ht : Turned g vt.ownBlock w w') :
    Bld (grw F w w') w' g mb vo vt' pt' fs tx' n D ∧ Out F w w' ∧ Carry (idleB F g mb vo vt fs) (idleB (grw F w w') g mb vo vt' fs) w w':=by
  obtain ⟨t1,t2,t3,hz,hsame⟩:=ht
  have ho : ∀ i,i ≠ 3 → roleB g mb vo vt' fs i = roleB g mb vo vt fs i:=fun i hi => by
    match i,hi with
    | 0,_ | 1,_ | 2,_ => rfl
    | 3,h => exact absurd rfl h
    | i + 4,_ => rfl
  have hk : ∀ c,roleB g mb vo vt' fs 3 = some c → roleB g mb vo vt fs 3 = some c ∨ w.heap.size ≤ c:=hat
  have hsr : ∀ i c,roleB g mb vo vt fs i = some c → i ≠ 0 → i ≠ 3 → w'.heap[c]? = w.heap[c]?:=fun i c e h0 h3 =>
    hsame c (h.role_lt e) (fun e2 => h0 (h.inj i 0 c e (by rw [e2]; rfl))) (fun e2 => h3 (h.inj i 3 c e e2))
  have hcar : Carry (idleB F g mb vo vt fs) (idleB (grw F w w') g mb vo vt' fs) w w':=fun b hb =>
    ⟨⟨.inl hb.1,turn_idle ho hk (h.lt b hb.1) hb.2⟩,hsame b (h.lt b hb.1) (fun e => hb.2 0 (by rw [e]; rfl)) (fun e => hb.2 3 e)⟩
  refine ⟨⟨hbox,hp,own_keepW h.row (fun c e => hsr 2 c e (by decide) (by decide)),hown,map_keepW h.map (hsr 1 mb rfl (by decide) (by decide)),fun q hq => ?_,fun q hq => ((h.atts q hq).keep (fun b hb => (hcar b hb).2)).mono (fun b hb => (hcar b hb).1),turn_inj h.inj (fun _ _ e => h.role_lt e) ho hk,turn_sub h.sub ho hk (fun c e => (hown.lt c e).2),grw_lt h.lt hz⟩,⟨t1,t2,t3,hz,fun b hb hF => hsame b hb (fun e => hF (by rw [e]; exact h.sub 0 g rfl)) (fun e => hF (h.sub 3 b e))⟩,hcar⟩
  obtain ⟨ys,h1,h2⟩:=h.kids q hq
  obtain ⟨i,hi⟩:=List.mem_iff_getElem?.1 hq
  exact ⟨ys,own_keepW h1 (fun c e => hsr (i + 4) c (by rw [Bld.kid_role hi]; exact e) (by omega) (by omega)),RepC.mono (fun b hb => (hcar b hb).1) _ _ (RepC.keep (fun b hb => (hcar b hb).2) _ _ h2)⟩
theorem Bld.putm {n' : Nat} {D' : DataW Unit} (h : Bld F w g mb vo vt pt fs tx n D) (hg : w.grownBy w' (some mb)) (hm : w'.ownsMap Tryz.prog 9 (plainElem (H:=Unit) Tryz.prog 3) mb n' D') :
    Bld (grw F w w') w' g mb vo vt pt fs tx n' D' ∧ Out F w w' ∧ Carry (idleB F g mb vo vt fs) (idleB (grw F w w') g mb vo vt fs) w w':=by
  have hsr : ∀ i c,roleB g mb vo vt fs i = some c → i ≠ 1 → w'.heap[c]? = w.heap[c]?:=fun i c e h1 =>
    hg.block c (h.role_lt e) (fun e2 => h1 (h.inj i 1 c e (by rw [show c = mb from Option.some.inj e2]; rfl)))
  have hcar : Carry (idleB F g mb vo vt fs) (idleB (grw F w w') g mb vo vt fs) w w':=fun b hb =>
    ⟨⟨.inl hb.1,hb.2⟩,hg.block b (h.lt b hb.1) (fun e => hb.2 1 (by rw [show b = mb from Option.some.inj e]; rfl))⟩
  refine ⟨⟨h.box.keep (hsr 0 g rfl (by decide)),h.ptr,own_keepW h.row (fun c e => hsr 2 c e (by decide)),ownF_keepW h.text (fun c e => hsr 3 c e (by decide)),hm,fun q hq => ?_,fun q hq => ((h.atts q hq).keep (fun b hb => (hcar b hb).2)).mono (fun b hb => (hcar b hb).1),h.inj,fun i c e => .inl (h.sub i c e),grw_lt h.lt hg.size⟩,⟨hg.os,hg.tape,hg.output,hg.size,fun b hb hF => hg.block b hb (fun e => hF (by rw [show b = mb from Option.some.inj e]; exact h.sub 1 mb rfl))⟩,hcar⟩
  obtain ⟨ys,h1,h2⟩:=h.kids q hq
  obtain ⟨i,hi⟩:=List.mem_iff_getElem?.1 hq
  exact ⟨ys,own_keepW h1 (fun c e => hsr (i + 4) c (by rw [Bld.kid_role hi]; exact e) (by omega)),RepC.mono (fun b hb => (hcar b hb).1) _ _ (RepC.keep (fun b hb => (hcar b hb).2) _ _ h2)⟩
theorem Bld.pop {A : List FV} {f : FV} {go cap : Nat} (h : Bld F w g mb vo vt pt (A ++ [f]) tx n D) (hvo : vo = .slice (some ⟨go,0,none⟩) (A.length + 1) cap) :
    Bld F (w.setCell ⟨g,0,none⟩ (.slice (some ⟨go,0,none⟩) A.length cap)) g mb (.slice (some ⟨go,0,none⟩) A.length cap) vt pt A tx n D ∧
    RepV (idleB F g mb (.slice (some ⟨go,0,none⟩) A.length cap) vt A) (w.setCell ⟨g,0,none⟩ (.slice (some ⟨go,0,none⟩) A.length cap)) f.x f.va f.vk ∧ Out F w (w.setCell ⟨g,0,none⟩ (.slice (some ⟨go,0,none⟩) A.length cap)):=by
  obtain ⟨w3,hw3⟩ : ∃ W,W = w.setCell ⟨g,0,none⟩ (.slice (some ⟨go,0,none⟩) A.length cap):=⟨_,rfl⟩
  obtain ⟨vo',hvo'⟩ : ∃ v,v = Value.slice (some ⟨go,0,none⟩) A.length cap:=⟨_,rfl⟩
  have rk : roleB g mb vo vt (A ++ [f]) (A.length + 4) = f.vk.ownBlock:=role_last ..
  have hr : ∀ i c,roleB g mb vo' vt A i = some c → roleB g mb vo vt (A ++ [f]) i = some c ∧ i ≠ A.length + 4:=fun i c e => by
    match i,e with
    | 0,e | 1,e | 3,e => exact ⟨e,by omega⟩
    | 2,e => exact ⟨by rw [hvo]; rw [hvo'] at e; exact e,by omega⟩
    | i + 4,e =>
      have e : (A[i]?).bind (fun f => f.vk.ownBlock) = some c:=e
      have hi : i < A.length:=by
        rcases Nat.lt_or_ge i A.length with h1 | h1
        · exact h1
        · rw [List.getElem?_eq_none h1] at e; cases e
      refine ⟨?_,by omega⟩
      show ((A ++ [f])[i]?).bind _ = _
      rw [List.getElem?_append_left hi]
      exact e
  have hidle : ∀ b,idleB F g mb vo vt (A ++ [f]) b → idleB F g mb vo' vt A b:=fun b hb => ⟨hb.1,fun i e => hb.2 i (hr i b e).1⟩
  have hfar : ∀ c,c ≠ g → w3.heap[c]? = w.heap[c]?:=fun c hc => by rw [hw3]; exact Below.heap_setCell _ _ _ _ hc
  have hig : ∀ b,idleB F g mb vo vt (A ++ [f]) b → b ≠ g:=fun b hb e => hb.2 0 (by rw [e]; rfl)
  have hbox : Box w3 g 193 [vo',pt,vt,.map (some mb)]:=by rw [hw3,hvo']; exact h.box.set 0 _
  have hsr : ∀ i c,roleB g mb vo vt (A ++ [f]) i = some c → i ≠ 0 → w3.heap[c]? = w.heap[c]?:=fun i c e h0 => hfar c (fun e2 => h0 (h.inj i 0 c e (by rw [e2]; rfl)))
  have hrow : w3.ownsRow 0 189 6 vo' A.length (cellsF A):=by
    have r:=own_keepW (w':=w3) h.row (fun c e => hsr 2 c e (by decide))
    obtain ⟨r1,r2⟩:=r
    refine ⟨cellsF_len A,?_⟩
    rcases r2 with ⟨e,_⟩ | ⟨c,cp,cur,e,q1,q2,q3,q4,q5,q6⟩
    · rw [hvo] at e; cases e
    · rw [hvo] at e
      injection e with e1 e2 e3
      injection e1 with e1
      injection e1 with e1
      subst e1 e3
      refine .inr ⟨go,cap,cur,hvo',q1,q2,by simp at q3; omega,q4,q5,?_⟩
      have : (cur.toList.take ((A ++ [f]).length * 6)).take (A.length * 6) = cellsF A:=by
        rw [q6,cellsF_append,List.take_append_of_le_length (by rw [cellsF_len]; omega),List.take_of_length_le (by rw [cellsF_len]; omega)]
      rw [List.take_take] at this
      rw [← this]
      congr 1
      simp
  rw [← hvo'] at hw3 ⊢
  rw [← hw3]
  refine ⟨⟨hbox,h.ptr,hrow,ownF_keepW h.text (fun c e => hsr 3 c e (by decide)),map_keepW h.map (hsr 1 mb rfl (by decide)),fun q hq => ?_,fun q hq => ((h.atts q (List.mem_append_left _ hq)).keep (fun b hb => hfar b (hig b hb))).mono hidle,fun i j c e1 e2 => h.inj i j c (hr i c e1).1 (hr j c e2).1,fun i c e => h.sub i c (hr i c e).1,fun b hb => by rw [hw3]; simpa using h.lt b hb⟩,⟨((h.atts f (by simp)).keep (fun b hb => hfar b (hig b hb))).mono hidle,?_⟩,?_⟩
  · obtain ⟨ys,h1,h2⟩:=h.kids q (List.mem_append_left _ hq)
    obtain ⟨i,hi⟩:=List.mem_iff_getElem?.1 hq
    have hi2 : (A ++ [f])[i]? = some q:=by rw [List.getElem?_append_left (List.getElem?_eq_some_iff.1 hi).1]; exact hi
    exact ⟨ys,own_keepW h1 (fun c e => hsr (i + 4) c (by rw [Bld.kid_role hi2]; exact e) (by omega)),RepC.mono hidle _ _ (RepC.keep (fun b hb => hfar b (hig b hb)) _ _ h2)⟩
  · obtain ⟨ys,h1,h2⟩:=h.kids f (by simp)
    refine ⟨ys,Row.own (own_keepW h1 (fun c e => hsr (A.length + 4) c (rk.trans e) (by omega))) (fun c e => ⟨h.sub _ c (rk.trans e),fun i e2 => ?_⟩),RepC.mono hidle _ _ (RepC.keep (fun b hb => hfar b (hig b hb)) _ _ h2)⟩
    obtain ⟨e3,e4⟩:=hr i c e2
    exact e4 (h.inj i _ c e3 (rk.trans e))
  · rw [hw3]
    exact ⟨rfl,rfl,rfl,by simp,fun b _ hF => Below.heap_setCell _ _ _ _ (fun e => hF (by rw [e]; exact h.sub 0 g rfl))⟩
theorem Bld.push {f : FV} {gg c2 : Nat} {w2 : World} (h : Bld F w g mb vo vt pt fs tx n D) (hfk : f.vk = .slice none 0 0) (hf0 : f.x.kids = [])
    (hx : RepV (idleB F g mb vo vt fs) w f.x f.va f.vk) (hgrow : w.grownBy w2 vo.ownBlock) (hown : w2.ownsRow 0 189 6 (.slice (some ⟨gg,0,none⟩) (fs.length + 1) c2) (fs.length + 1) (cellsF fs ++ f.cells)) (hat : vo.ownBlock = some gg ∨ w.heap.size ≤ gg) :
    Bld (grw F w (w2.setCell ⟨g,0,none⟩ (.slice (some ⟨gg,0,none⟩) (fs.length + 1) c2))) (w2.setCell ⟨g,0,none⟩ (.slice (some ⟨gg,0,none⟩) (fs.length + 1) c2)) g mb (.slice (some ⟨gg,0,none⟩) (fs.length + 1) c2) vt pt (fs ++ [f]) tx n D ∧
    Out F w (w2.setCell ⟨g,0,none⟩ (.slice (some ⟨gg,0,none⟩) (fs.length + 1) c2)):=by
  obtain ⟨vo',hvo'⟩ : ∃ v,v = Value.slice (some ⟨gg,0,none⟩) (fs.length + 1) c2:=⟨_,rfl⟩
  rw [← hvo'] at hown ⊢
  obtain ⟨w3,hw3⟩ : ∃ W,W = w2.setCell ⟨g,0,none⟩ vo':=⟨_,rfl⟩
  rw [← hw3]
  have hz2:=hgrow.size
  have hz3 : w3.heap.size = w2.heap.size:=by rw [hw3]; simp
  have ho : ∀ i,i ≠ 2 → roleB g mb vo' vt (fs ++ [f]) i = roleB g mb vo vt fs i:=fun i hi => by
    match i,hi with
    | 0,_ | 1,_ | 3,_ => rfl
    | 2,h => exact absurd rfl h
    | i + 4,_ =>
      show ((fs ++ [f])[i]?).bind _ = (fs[i]?).bind _
      rw [List.getElem?_append]
      split
      · rfl
      · rename_i hi
        rw [List.getElem?_eq_none (l:=fs) (by omega)]
        cases hj : [f][i - fs.length]? with
        | none => rfl
        | some q =>
          obtain ⟨_,e⟩:=List.getElem?_eq_some_iff.1 hj
          have : q = f:=by
            have:=List.mem_of_getElem? hj
            simpa using this
          subst this
          show q.vk.ownBlock = none
          rw [hfk]; rfl
  have r2' : roleB g mb vo' vt (fs ++ [f]) 2 = some gg:=by rw [hvo']; rfl
  have hk : ∀ c,roleB g mb vo' vt (fs ++ [f]) 2 = some c → roleB g mb vo vt fs 2 = some c ∨ w.heap.size ≤ c:=fun c e => by
    rw [r2'] at e; cases e; exact hat
  have hsame : ∀ b,b < w.heap.size → vo.ownBlock ≠ some b → b ≠ g → w3.heap[b]? = w.heap[b]?:=fun b hb h1 h2 => by
    rw [hw3,Below.heap_setCell _ _ _ _ h2]
    exact hgrow.block b hb (fun e => h1 e.symm)
  have hsr : ∀ i c,roleB g mb vo vt fs i = some c → i ≠ 0 → i ≠ 2 → w3.heap[c]? = w.heap[c]?:=fun i c e h0 h2 =>
    hsame c (h.role_lt e) (fun e2 => h2 (h.inj i 2 c e e2)) (fun e2 => h0 (h.inj i 0 c e (by rw [e2]; rfl)))
  have hgl : gg < w3.heap.size:=by have:=hown.lt gg (by rw [hvo']; rfl); omega
  have hne : gg ≠ g:=fun e => by
    rcases hat with h1 | h1
    · have:=h.inj 2 0 gg h1 (by rw [e]; rfl); omega
    · have:=h.role_lt (i:=0) rfl; omega
  have hcar : Carry (idleB F g mb vo vt fs) (idleB (grw F w w3) g mb vo' vt (fs ++ [f])) w w3:=fun b hb =>
    ⟨⟨.inl hb.1,turn_idle ho hk (h.lt b hb.1) hb.2⟩,hsame b (h.lt b hb.1) (fun e => hb.2 2 e) (fun e => hb.2 0 (by rw [e]; rfl))⟩
  have hbox2 : Box w2 g 193 [vo,pt,vt,.map (some mb)]:=h.box.keep (hgrow.block g (h.role_lt (i:=0) rfl) (fun e => by have:=h.inj 2 0 g e.symm rfl; omega))
  have hbox : Box w3 g 193 [vo',pt,vt,.map (some mb)]:=by rw [hw3]; exact hbox2.set 0 _
  have hrow : w3.ownsRow 0 189 6 vo' (fs ++ [f]).length (cellsF (fs ++ [f])):=by
    rw [cellsF_append,cellsF_one,List.length_append]
    exact own_keepW hown (fun c e => by
      have e : gg = c:=by rw [hvo'] at e; simpa [Value.ownBlock] using e
      rw [hw3,Below.heap_setCell _ _ _ _ (by show c ≠ g; omega)])
  refine ⟨⟨hbox,h.ptr,hrow,ownF_keepW h.text (fun c e => hsr 3 c e (by decide) (by decide)),map_keepW h.map (hsr 1 mb rfl (by decide) (by decide)),fun q hq => ?_,fun q hq => ?_,turn_inj h.inj (fun _ _ e => h.role_lt e) ho hk,turn_sub h.sub ho hk (fun c e => by rw [r2'] at e; cases e; exact hgl),grw_lt h.lt (by omega)⟩,⟨by rw [hw3]; exact hgrow.os,by rw [hw3]; exact hgrow.tape,by rw [hw3]; exact hgrow.output,by omega,fun b hb hF => hsame b hb (fun e => hF (h.sub 2 b e)) (fun e => hF (by rw [e]; exact h.sub 0 g rfl))⟩⟩
  · rcases List.mem_append.1 hq with hq | hq
    · obtain ⟨ys,h1,h2⟩:=h.kids q hq
      obtain ⟨i,hi⟩:=List.mem_iff_getElem?.1 hq
      exact ⟨ys,own_keepW h1 (fun c e => hsr (i + 4) c (by rw [Bld.kid_role hi]; exact e) (by omega) (by omega)),RepC.mono (fun b hb => (hcar b hb).1) _ _ (RepC.keep (fun b hb => (hcar b hb).2) _ _ h2)⟩
    · obtain rfl:=List.mem_singleton.1 hq
      rw [hfk,hf0]
      exact ⟨[],World.ownsRow_nil _ _ _ _,RepC.nil _ _⟩
  · rcases List.mem_append.1 hq with hq | hq
    · exact ((h.atts q hq).keep (fun b hb => (hcar b hb).2)).mono (fun b hb => (hcar b hb).1)
    · obtain rfl:=List.mem_singleton.1 hq
      exact ((hx.at_).keep (fun b hb => (hcar b hb).2)).mono (fun b hb => (hcar b hb).1)
end
end Go.Proofs.YteefodibpjgicaaGreat
