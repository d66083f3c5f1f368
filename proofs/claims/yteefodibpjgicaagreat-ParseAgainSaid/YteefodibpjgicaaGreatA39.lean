/- Texts joined: TokM, BldP, BldT, Math8. -/
import Derived.Test.YteefodibpjgicaaGreatA10
import Derived.Test.YteefodibpjgicaaGreatA31
import Derived.Test.YteefodibpjgicaaGreatA37
import Derived.Test.YteefodibpjgicaaGreatA38
namespace Go.Proofs.YteefodibpjgicaaGreat
open Go.RowKit
def Tok.cells (t : Tok) (va : Value) : List Value:=[.int .i64 t.kind,.string t.name,va,.string t.text]
theorem Tok.cells_len (t : Tok) (va : Value) : (t.cells va).length = 4:=rfl
def RepT (S : Nat → Prop) (w : World) : List Value → List Tok → Prop
  | xs,[] => xs = []
  | xs,t :: r => ∃ va ys,xs = t.cells va ++ ys ∧ Row S w 2 va t.attrs.length (cellsA t.attrs) ∧ RepT S w ys r
theorem RepT.keep {S : Nat → Prop} {w w' : World} (hk : ∀ b,S b → w'.heap[b]? = w.heap[b]?) : ∀ (l : List Tok) (xs : List Value),RepT S w xs l → RepT S w' xs l
  | [],_,h => h
  | _ :: r,_,⟨va,ys,h1,h2,h3⟩ => ⟨va,ys,h1,h2.keep hk,RepT.keep hk r ys h3⟩
theorem RepT.mono {S S' : Nat → Prop} {w : World} (hs : ∀ b,S b → S' b) : ∀ (l : List Tok) (xs : List Value),RepT S w xs l → RepT S' w xs l
  | [],_,h => h
  | _ :: r,_,⟨va,ys,h1,h2,h3⟩ => ⟨va,ys,h1,h2.mono hs,RepT.mono hs r ys h3⟩
theorem RepT.snoc {S : Nat → Prop} {w : World} {t : Tok} {va : Value} (h : Row S w 2 va t.attrs.length (cellsA t.attrs)) : ∀ (l : List Tok) (xs : List Value),RepT S w xs l → RepT S w (xs ++ t.cells va) (l ++ [t])
  | [],xs,e => by
    have e : xs = []:=e
    subst e
    exact ⟨va,[],by simp,h,rfl⟩
  | _ :: r,_,⟨vb,ys,h1,h2,h3⟩ => ⟨vb,ys ++ t.cells va,by rw [h1,List.append_assoc],h2,RepT.snoc h r ys h3⟩
theorem RepT.at_ {S : Nat → Prop} {w : World} : ∀ (l : List Tok) (xs : List Value) (i : Nat) (hi : i < l.length),RepT S w xs l → ∃ va,Row S w 2 va l[i].attrs.length (cellsA l[i].attrs) ∧
    xs[i * 4]? = some (.int .i64 l[i].kind) ∧ xs[i * 4 + 1]? = some (.string l[i].name) ∧ xs[i * 4 + 2]? = some va ∧ xs[i * 4 + 3]? = some (.string l[i].text)
  | [],_,i,hi,_ => by simp at hi
  | t :: r,_,0,_,⟨va,ys,h1,h2,_⟩ => by subst h1; exact ⟨va,h2,rfl,rfl,rfl,rfl⟩
  | t :: r,_,i + 1,hi,⟨va,ys,h1,_,h3⟩ => by
    obtain ⟨vb,q0,q1,q2,q3,q4⟩:=RepT.at_ r ys i (by simpa using hi) h3
    subst h1
    refine ⟨vb,q0,?_,?_,?_,?_⟩
    · rw [List.getElem?_append_right (by rw [Tok.cells_len]; omega),Tok.cells_len,show (i + 1) * 4 - 4 = i * 4 by omega]; exact q1
    · rw [List.getElem?_append_right (by rw [Tok.cells_len]; omega),Tok.cells_len,show (i + 1) * 4 + 1 - 4 = i * 4 + 1 by omega]; exact q2
    · rw [List.getElem?_append_right (by rw [Tok.cells_len]; omega),Tok.cells_len,show (i + 1) * 4 + 2 - 4 = i * 4 + 2 by omega]; exact q3
    · rw [List.getElem?_append_right (by rw [Tok.cells_len]; omega),Tok.cells_len,show (i + 1) * 4 + 3 - 4 = i * 4 + 3 by omega]; exact q4
def Toks (w : World) (B : Nat) (v : Value) (l : List Tok) : Prop:=∃ xs,w.ownsRow B 87 4 v l.length xs ∧ RepT (fun b => B ≤ b ∧ b < w.heap.size ∧ v.ownBlock ≠ some b) w xs l
theorem Toks.nil (w : World) (B : Nat) : Toks w B (.slice none 0 0) []:=⟨[],World.ownsRow_nil _ _ _ _,rfl⟩
theorem Toks.slice {w : World} {B : Nat} {v : Value} {l : List Tok} (h : Toks w B v l) : ∃ a c,v = .slice a l.length c:=by
  obtain ⟨xs,h1,_⟩:=h
  exact own_slice5 h1
theorem Toks.lt {w : World} {B : Nat} {v : Value} {l : List Tok} (h : Toks w B v l) {b : Nat} (hb : v.ownBlock = some b) : B ≤ b ∧ b < w.heap.size:=by
  obtain ⟨xs,h1,_⟩:=h
  exact h1.lt b hb
theorem Toks.keep {w w' : World} {B : Nat} {v : Value} {l : List Tok} (h : Toks w B v l) (hz : w.heap.size ≤ w'.heap.size) (hk : ∀ b,B ≤ b → b < w.heap.size → w'.heap[b]? = w.heap[b]?) : Toks w' B v l:=by
  obtain ⟨xs,h1,h2⟩:=h
  refine ⟨xs,own_keep5 h1 (fun g hg => hk g (h1.lt g hg).1 (h1.lt g hg).2),?_⟩
  exact RepT.mono (fun b hb => ⟨hb.1,Nat.lt_of_lt_of_le hb.2.1 hz,hb.2.2⟩) _ _ (RepT.keep (fun b hb => hk b hb.1 hb.2.1) _ _ h2)
theorem Toks.below {w w' : World} {B : Nat} {v : Value} {l : List Tok} (h : Toks w B v l) (hb : Below w.heap.size w w') : Toks w' B v l:=h.keep hb.size (fun b _ hlt => hb.block b hlt)
theorem Toks.alloc {w : World} {B : Nat} {v : Value} {l : List Tok} (h : Toks w B v l) (o : Obj) : Toks (w.alloc o) B v l:=h.below ((Below.refl _ w).alloc (Nat.le_refl _) o)
theorem Toks.set {w : World} {B g j : Nat} {v : Value} {l : List Tok} (h : Toks w B v l) (hg : g < B) (c : Value) : Toks (w.setCell ⟨g,j,none⟩ c) B v l :=
  h.keep (by simp) (fun b hb _ => Below.heap_setCell w ⟨g,j,none⟩ c b (by show b ≠ g; omega))
theorem Toks.rows {w : World} {B : Nat} {v : Value} {l : List Tok} (h : Toks w B v l) : ∃ xs,Row (fun b => B ≤ b ∧ b < w.heap.size) w 4 v l.length xs ∧ RepT (fun b => B ≤ b ∧ b < w.heap.size) w xs l:=by
  obtain ⟨xs,h1,h2⟩:=h
  exact ⟨xs,Row.own h1 (fun g hg => h1.lt g hg),RepT.mono (fun b hb => ⟨hb.1,hb.2.1⟩) _ _ h2⟩
theorem infoT5 : (Tryz.prog.info? 87).map (fun i => (i.zero,i.size,i.bytes)) = some (some (.agg #[.int .i64 0,.string ⟨#[]⟩,.slice none 0 0,.string ⟨#[]⟩]),4,64):=by kernel_rfl
theorem Toks.snoc {w w' : World} {B g cap : Nat} {v va : Value} {l : List Tok} {t : Tok} {xs : List Value} (hrep : RepT (fun b => B ≤ b ∧ b < w.heap.size ∧ v.ownBlock ≠ some b) w xs l)
    (hrow : Row (fun b => B ≤ b ∧ b < w.heap.size ∧ v.ownBlock ≠ some b) w 2 va t.attrs.length (cellsA t.attrs)) (hgrow : w.grownBy w' v.ownBlock) (hat : v.ownBlock = some g ∨ w.heap.size ≤ g)
    (hown : w'.ownsRow B 87 4 (.slice (some ⟨g,0,none⟩) (l.length + 1) cap) (l.length + 1) (xs ++ t.cells va)) : Toks w' B (.slice (some ⟨g,0,none⟩) (l.length + 1) cap) (l ++ [t]):=by
  refine ⟨xs ++ t.cells va,by rw [List.length_append]; exact hown,?_⟩
  have hk : ∀ b,(B ≤ b ∧ b < w.heap.size ∧ v.ownBlock ≠ some b) → w'.heap[b]? = w.heap[b]?:=fun b hb => hgrow.block b hb.2.1 (fun e => hb.2.2 e.symm)
  have hm : ∀ b,(B ≤ b ∧ b < w.heap.size ∧ v.ownBlock ≠ some b) → (B ≤ b ∧ b < w'.heap.size ∧ (Value.slice (some ⟨g,0,none⟩) (l.length + 1) cap).ownBlock ≠ some b):=fun b hb => by
    refine ⟨hb.1,Nat.lt_of_lt_of_le hb.2.1 hgrow.size,fun e => ?_⟩
    have e : g = b:=Option.some.inj e
    subst e
    rcases hat with h | h
    · exact hb.2.2 h
    · omega
  exact RepT.mono hm _ _ (RepT.snoc (hrow.keep hk) _ _ (RepT.keep hk _ _ hrep))
end Go.Proofs.YteefodibpjgicaaGreat

namespace Go.Proofs.YteefodibpjgicaaGreat
open Go.RowKit Go.Maps
theorem bNodes {F : Nat → Prop} {w : World} {g mb q : Nat} {s : M7.St} (h : BS F w g mb s q) (hq : q ≤ 400000) :
    Calls Tryz.prog 206 #[.pointer (some ⟨g,0,none⟩)] w fun e W' => ∃ v,e = .returned v ∧ Fresh W' w.heap.size v s.L ∧ BS F W' g mb s q ∧ Out F w W' :=
  (callsIn_wide (n:=3)).1 (bNodes_in 3 (by omega) h hq)
def root0 : FV:=⟨.mk 0 ⟨#[]⟩ [] ⟨#[]⟩ [],.slice none 0 0,.slice none 0 0,0⟩
theorem inv0 : BInv [root0] [] 0 (.map []) ⟨[],0⟩ 0:=by
  refine ⟨rfl,rfl,fun j f h => by simp at h,fun A f h => ?_,fun j f h => by simp at h,fun nm => ⟨rfl,rfl⟩,by simp,by simp,by simp,by show M3.weight [] ≤ _; rw [M3.weight_nil]; omega,fun f h => ?_⟩
  · have : f = root0:=by
      have:=congrArg List.getLast? h
      rw [List.getLast?_concat] at this
      simp at this
      exact this.symm
    subst this
    exact M7.noTx_nil
  · have : root0 = f:=by simpa using h
    subst this
    rfl
set_option maxHeartbeats 4000000 in
set_option maxRecDepth 100000 in
theorem bNew (w : World) : Calls Tryz.prog 204 #[] w fun e w' => ∃ g mb,e = .returned (.pointer (some ⟨g,0,none⟩)) ∧ BS (fun b => w.heap.size ≤ b ∧ b < w'.heap.size) w' g mb ⟨[],0⟩ 0 ∧ Below w.heap.size w w':=by
  have hmm:=@run_makeMap Tryz.prog 191
  have hb : Below w.heap.size w (((w.alloc (.cells #[.int .i64 0,.string ⟨#[]⟩,.slice none 0 0,.string ⟨#[]⟩,.slice none 0 0,.int .i64 0] 189)).alloc (.map #[] 0)).alloc (.cells #[.slice (some ⟨w.heap.size,0,none⟩) 1 1,.pointer none,.slice none 0 0,.map (some (w.heap.size + 1))] 193)):=(((Below.refl _ w).alloc (Nat.le_refl _) _).alloc (by simp) _).alloc (by simp; omega) _
  have hB : Bld (fun b => w.heap.size ≤ b ∧ b < w.heap.size + 3) (((w.alloc (.cells #[.int .i64 0,.string ⟨#[]⟩,.slice none 0 0,.string ⟨#[]⟩,.slice none 0 0,.int .i64 0] 189)).alloc (.map #[] 0)).alloc (.cells #[.slice (some ⟨w.heap.size,0,none⟩) 1 1,.pointer none,.slice none 0 0,.map (some (w.heap.size + 1))] 193)) (w.heap.size + 2) (w.heap.size + 1) (.slice (some ⟨w.heap.size,0,none⟩) 1 1) (.slice none 0 0) (.pointer none) [root0] [] 0 (.map []):=by
    have hs1 : (w.alloc (.cells #[.int .i64 0,.string ⟨#[]⟩,.slice none 0 0,.string ⟨#[]⟩,.slice none 0 0,.int .i64 0] 189)).heap.size = w.heap.size + 1:=by simp
    have hs2 : ((w.alloc (.cells #[.int .i64 0,.string ⟨#[]⟩,.slice none 0 0,.string ⟨#[]⟩,.slice none 0 0,.int .i64 0] 189)).alloc (.map #[] 0)).heap.size = w.heap.size + 2:=by simp
    have hbx:=Box.new ((w.alloc (.cells #[.int .i64 0,.string ⟨#[]⟩,.slice none 0 0,.string ⟨#[]⟩,.slice none 0 0,.int .i64 0] 189)).alloc (.map #[] 0)) 193 [.slice (some ⟨w.heap.size,0,none⟩) 1 1,.pointer none,.slice none 0 0,.map (some (w.heap.size + 1))]
    rw [hs2] at hbx
    have hrow : (w.alloc (.cells #[.int .i64 0,.string ⟨#[]⟩,.slice none 0 0,.string ⟨#[]⟩,.slice none 0 0,.int .i64 0] 189)).ownsRow 0 189 6 (.slice (some ⟨w.heap.size,0,none⟩) 1 1) 1 (cellsF [root0]) :=
      ⟨rfl,.inr ⟨w.heap.size,1,_,rfl,Nat.zero_le _,heap_alloc_new w _,Nat.le_refl _,by unfold maxLen; omega,rfl,rfl⟩⟩
    have hmap:=World.ownsMap_made (H:=Unit) (w.alloc (.cells #[.int .i64 0,.string ⟨#[]⟩,.slice none 0 0,.string ⟨#[]⟩,.slice none 0 0,.int .i64 0] 189)) Tryz.prog 9 (plainElem Tryz.prog 3)
    rw [hs1] at hmap
    have hrole : ∀ i c,roleB (w.heap.size + 2) (w.heap.size + 1) (.slice (some ⟨w.heap.size,0,none⟩) 1 1) (.slice none 0 0) [root0] i = some c → (i = 0 ∧ c = w.heap.size + 2) ∨ (i = 1 ∧ c = w.heap.size + 1) ∨ (i = 2 ∧ c = w.heap.size):=fun i c h => by
      match i,h with
      | 0,h => exact .inl ⟨rfl,(Option.some.inj h).symm⟩
      | 1,h => exact .inr (.inl ⟨rfl,(Option.some.inj h).symm⟩)
      | 2,h => exact .inr (.inr ⟨rfl,(Option.some.inj h).symm⟩)
      | 3,h => cases h
      | 4,h => cases h
      | i + 5,h =>
        have h : (([root0] : List FV)[i + 1]?).bind (fun f => f.vk.ownBlock) = some c:=h
        rw [List.getElem?_eq_none (by simp)] at h
        cases h
    refine ⟨hbx,.inl rfl,(hrow.alloc _).alloc _,World.ownsRowF_nil _ _ _ _,hmap.alloc _,fun f hf => ?_,fun f hf => ?_,fun i j c h1 h2 => ?_,fun i c h => ?_,fun b hb => by simp; omega⟩
    · obtain rfl:=List.mem_singleton.1 hf
      exact ⟨[],World.ownsRow_nil _ _ _ _,RepC.nil _ _⟩
    · obtain rfl:=List.mem_singleton.1 hf
      exact Row.nil _ _ _
    · rcases hrole i c h1 with ⟨h3,h4⟩ | ⟨h3,h4⟩ | ⟨h3,h4⟩ <;> rcases hrole j c h2 with ⟨h5,h6⟩ | ⟨h5,h6⟩ | ⟨h5,h6⟩ <;> omega
    · rcases hrole i c h with ⟨h3,h4⟩ | ⟨h3,h4⟩ | ⟨h3,h4⟩ <;> omega
  have hsz : (((w.alloc (.cells #[.int .i64 0,.string ⟨#[]⟩,.slice none 0 0,.string ⟨#[]⟩,.slice none 0 0,.int .i64 0] 189)).alloc (.map #[] 0)).alloc (.cells #[.slice (some ⟨w.heap.size,0,none⟩) 1 1,.pointer none,.slice none 0 0,.map (some (w.heap.size + 1))] 193)).heap.size = w.heap.size + 3:=by simp
  have hP : Hid (∃ g mb,(Ending.returned (.pointer (some ⟨w.heap.size + 2,0,none⟩))) = .returned (.pointer (some ⟨g,0,none⟩)) ∧ BS (fun b => w.heap.size ≤ b ∧ b < (((w.alloc (.cells #[.int .i64 0,.string ⟨#[]⟩,.slice none 0 0,.string ⟨#[]⟩,.slice none 0 0,.int .i64 0] 189)).alloc (.map #[] 0)).alloc (.cells #[.slice (some ⟨w.heap.size,0,none⟩) 1 1,.pointer none,.slice none 0 0,.map (some (w.heap.size + 1))] 193)).heap.size) _ g mb ⟨[],0⟩ 0 ∧ Below w.heap.size w _) :=
    ⟨_,_,rfl,⟨_,_,_,_,_,_,_,by rw [hsz]; exact hB,inv0⟩,hb⟩
  clear hB hb hsz
  go_enter Tryz.func204,Tryz.ntmps204
  go_wp2
  go_ret
  exact hP.out
end Go.Proofs.YteefodibpjgicaaGreat

namespace Go.Proofs.YteefodibpjgicaaGreat
open Go.RowKit Go.Maps
def TokR (S : Nat → Prop) (w : World) (v : Value) (l : List Tok) : Prop:=∃ xs,Row S w 4 v l.length xs ∧ RepT S w xs l
theorem TokR.keep {S : Nat → Prop} {w w' : World} {v : Value} {l : List Tok} (h : TokR S w v l) (hk : ∀ b,S b → w'.heap[b]? = w.heap[b]?) : TokR S w' v l:=by
  obtain ⟨xs,h1,h2⟩:=h
  exact ⟨xs,h1.keep hk,RepT.keep hk _ _ h2⟩
theorem TokR.at_ {S : Nat → Prop} {w : World} {a : Option Addr} {n cap : Nat} {l : List Tok} (h : TokR S w (.slice a n cap) l) (i : Nat) (hi : i < l.length) : ∃ b off va,a = some ⟨b,off,none⟩ ∧ S b ∧ Row S w 2 va l[i].attrs.length (cellsA l[i].attrs) ∧
    w.cell? ⟨b,off + i * 4,none⟩ = some (.int .i64 l[i].kind) ∧ w.cell? ⟨b,off + i * 4 + 1,none⟩ = some (.string l[i].name) ∧ w.cell? ⟨b,off + i * 4 + 2,none⟩ = some va ∧ w.cell? ⟨b,off + i * 4 + 3,none⟩ = some (.string l[i].text):=by
  obtain ⟨xs,⟨h0,a',cap',h1,h2,h3,h4,h5⟩,h6⟩:=h
  cases h1
  obtain ⟨b,off,rfl,h7,h8⟩:=h5 (by omega)
  obtain ⟨va,q0,q1,q2,q3,q4⟩:=RepT.at_ l xs i hi h6
  exact ⟨b,off,va,rfl,h7,q0,h8 _ _ q1,h8 _ _ q2,h8 _ _ q3,h8 _ _ q4⟩
theorem TokR.slice {S : Nat → Prop} {w : World} {v : Value} {l : List Tok} (h : TokR S w v l) : ∃ a c,v = .slice a l.length c:=by
  obtain ⟨xs,h1,_⟩:=h
  exact h1.slice
def sumQ (l : List Tok) (i : Nat) : Nat:=((l.take i).map tokQ).sum
theorem sumQ_succ (l : List Tok) (i : Nat) (h : i < l.length) : sumQ l (i + 1) = sumQ l i + tokQ l[i]:=by
  unfold sumQ
  rw [List.take_succ_eq_append_getElem h,List.map_append,List.sum_append]
  simp
theorem sumQ_le (l : List Tok) (i : Nat) : sumQ l i ≤ (l.map tokQ).sum:=by
  unfold sumQ
  have : (l.map tokQ).sum = ((l.take i).map tokQ).sum + ((l.drop i).map tokQ).sum:=by rw [← List.sum_append,← List.map_append,List.take_append_drop]
  omega
theorem len_sumQ (l : List Tok) : l.length ≤ (l.map tokQ).sum:=by
  induction l with
  | nil => simp
  | cons t r ih => rw [List.map_cons,List.sum_cons,List.length_cons]; unfold tokQ at *; omega
def FitL (l : List Tok) : Prop:=(l.map tokQ).sum ≤ 400000 ∧ ∀ t ∈ l,FitT t ∧ (Lit.int .i64 t.kind).wf = true
theorem Out.low {F : Nat → Prop} {w w1 w2 : World} (h : Below w.heap.size w w1) (k : Out F w1 w2) (hF : ∀ b,F b → w.heap.size ≤ b) : Below w.heap.size w w2 :=
  ⟨k.os.trans h.os,k.tape.trans h.tape,k.output.trans h.output,Nat.le_trans h.size k.size,fun b hb => (k.block b (Nat.lt_of_lt_of_le hb h.size) (fun e => by have:=hF b e; omega)).trans (h.block b hb)⟩
set_option maxHeartbeats 8000000 in
set_option maxRecDepth 100000 in
theorem bTree (S : Nat → Prop) (v : Value) (l : List Tok) (w : World) (hS : ∀ b,S b → b < w.heap.size) (hr : TokR S w v l) (hf : FitL l) :
    Calls Tryz.prog 203 #[v] w (FreshPost (M7.tree l) w):=by
  obtain ⟨a,cap,rfl⟩:=hr.slice
  obtain ⟨hq0,hft⟩:=hf
  have hl:=len_sumQ l
  have hN:=Lib.hid (fun W => bNew W)
  replace hft:=Lib.hid hft
  obtain ⟨wo,rfl⟩ : ∃ wo : World,wo = w:=⟨_,rfl⟩
  go_enter Tryz.func203,Tryz.ntmps203
  go_wp2_with fail
  refine (hN.out _).mono ?_
  rintro e w1 ⟨g,mb,rfl,hB1,hb1⟩
  have h0 : Hid (∃ F,BS F w1 g mb (M7.run (l.take 0)) (sumQ l 0) ∧ (∀ b,F b → wo.heap.size ≤ b)):=⟨_,hB1,fun b hb => hb.1⟩
  clear hB1
  go_wp2_with fail
  go_loopw [9] (fun u9 wr => ∃ i : Nat,i ≤ l.length ∧ u9 = .int .i64 (i : Int) ∧ Hid (∃ F,BS F wr g mb (M7.run (l.take i)) (sumQ l i) ∧ (∀ b,F b → wo.heap.size ≤ b)) ∧ Below wo.heap.size wo wr) (fun u9 _ => l.length - (intOf u9).toNat)
  case atStart => exact ⟨0,by omega,rfl,h0,hb1⟩
  case round =>
    obtain ⟨i,hi,rfl,hBS,hb⟩:=hrel
    have hz:=hb.size
    clear h0
    by_cases hlt : i < l.length
    · obtain ⟨F,hBS,hF⟩:=hBS.out
      obtain ⟨b,off,va,rfl,hSb,hat,c0,c1,c2,c3⟩:=(hr.keep (w':=wr) (fun b hb' => hb.block b (hS b hb'))).at_ i hlt
      have hbl:=hS b hSb
      obtain ⟨hfi,hkw⟩:=hft.out _ (List.getElem_mem hlt)
      have htk : M7.run (l.take (i + 1)) = M7.step (M7.run (l.take i)) l[i]:=by
        rw [List.take_succ_eq_append_getElem hlt,M7.run_snoc]
      have hqs:=Lib.hid (sumQ_succ l i hlt)
      have hql:=sumQ_le l i
      generalize l[i] = tk at *
      obtain ⟨av,cv,rfl⟩:=hat.slice
      have hb2 : Below wr.heap.size wr (wr.alloc (.cells #[.int .i64 tk.kind,.string tk.name,.slice av tk.attrs.length cv,.string tk.text] 87)):=(Below.refl _ wr).alloc (Nat.le_refl _) _
      have bX:=Box.new wr 87 [.int .i64 tk.kind,.string tk.name,.slice av tk.attrs.length cv,.string tk.text]
      change Box (wr.alloc (.cells #[.int .i64 tk.kind,.string tk.name,.slice av tk.attrs.length cv,.string tk.text] 87)) _ _ _ at bX
      replace hBS:=Lib.hid hBS
      replace hF:=Lib.hid hF
      replace htk:=Lib.hid htk
      replace hat:=Lib.hid hat
      replace hkw:=Lib.hid hkw
      replace bX:=Lib.hid bX
      go_upto_region 5 with fail
      obtain ⟨w2,hw2⟩ : ∃ W,wr.alloc (.cells #[.int .i64 tk.kind,.string tk.name,.slice av tk.attrs.length cv,.string tk.text] 87) = W:=⟨_,rfl⟩
      rw [hw2] at hb2 bX ⊢
      have hzz:=hb2.size
      have y0:=bX.out.cell (i:=0) rfl
      have y1:=bX.out.cell (i:=1) rfl
      have y2:=bX.out.cell (i:=2) rfl
      have y3:=bX.out.cell (i:=3) rfl
      have hP:=Lib.hid (bPut (S:=S) (tk:=tk) (va:=.slice av tk.attrs.length cv) (hBS.out.below hb2) (by omega) hfi hkw.out (fun b h => ⟨by have:=hS b h; omega,fun e => by have:=hF.out b e; have:=hS b h; omega⟩) (hat.out.keep (fun b h => hb2.block b (by have:=hS b h; omega))))
      clear hw2 c0 c1 c2 c3
      go_wp2_with fail
      refine hP.out.mono ?_
      rintro e w3 ⟨rfl,hB3,hO3⟩
      have hb3 : Below wo.heap.size wo w3:=Out.low (bt hb hb2) hO3 hF.out
      have hn : Hid (∃ F,BS F w3 g mb (M7.run (l.take (i + 1))) (sumQ l (i + 1)) ∧ (∀ b,F b → wo.heap.size ≤ b)):=⟨grw F w2 w3,by rw [htk.out,hqs.out]; exact hB3,fun b hb' => Or.elim hb' (hF.out b) (fun e => by omega)⟩
      clear hB3 hO3 y0 y1 y2 y3
      go_wp2_with fail
      go_roundw
      case rel => exact ⟨i + 1,by omega,by go_num,hn,hb3⟩
      case measure => exact meas_nat hlt
    · obtain rfl : i = l.length:=by omega
      obtain ⟨F,hBS2,hF⟩:=hBS.out
      rw [List.take_length] at hBS2
      have hqe:=sumQ_le l l.length
      have hNd:=Lib.hid (bNodes hBS2 (by omega))
      clear hBS2 hBS
      replace hF:=Lib.hid hF
      go_wp2_with fail
      refine hNd.out.mono ?_
      rintro e w3 ⟨v3,rfl,hf3,-,hO3⟩
      have hb3 : Below wo.heap.size wo w3:=Out.low hb hO3 hF.out
      have hres : Hid (Fresh w3 wo.heap.size v3 (M7.tree l)):=hf3.base hz
      clear hf3 hO3
      go_wp2_with fail
      go_ret
      exact ⟨v3,rfl,hres.out,hb3⟩
end Go.Proofs.YteefodibpjgicaaGreat

namespace Go.Proofs.YteefodibpjgicaaGreat
namespace M5
theorem addT_len (acc : List Att) (a : Att) : (addT acc a).length ≤ acc.length + 1:=by
  unfold addT
  split
  · omega
  · simp
theorem atts_count (n : Nat) : ∀ (l : List UInt8) (acc as_ : List Att) (r : List UInt8),attsF n l acc = some (as_,r) → as_.length + r.length ≤ acc.length + l.length:=by
  induction n with
  | zero => intro l acc as_ r h; cases l <;> simp [attsF] at h
  | succ n ih =>
    intro l acc as_ r h
    cases l with
    | nil => simp [attsF] at h
    | cons c t =>
      rw [attsF] at h
      rw [List.length_cons]
      by_cases h62 : c = 62
      · rw [if_pos h62] at h; cases h; omega
      rw [if_neg h62] at h
      cases hst : stopB c
      · rw [hst,if_neg Bool.false_ne_true] at h
        split at h
        · have h1:=ih _ _ _ _ h
          have h2:=attr_lt c t hst
          have h3:=addT_len acc (attrAt (c :: t)).1
          rw [List.length_cons] at h2
          omega
        · cases h
      · rw [hst,if_pos rfl] at h
        have:=ih _ _ _ _ h
        omega
def TB (N : Nat) (t : Tok) : Prop:=t.name.size ≤ N ∧ t.text.size ≤ 4 * N ∧ t.attrs.length ≤ N ∧ (t.kind = 1 ∨ t.kind = 2 ∨ t.kind = 3 ∨ t.kind = 4)
theorem TB.mono {N M : Nat} {t : Tok} (h : TB N t) (hm : N ≤ M) : TB M t:=⟨by have:=h.1; omega,by have:=h.2.1; omega,by have:=h.2.2.1; omega,h.2.2.2⟩
theorem fold_len (l : List UInt8) : (M1.fold l).length = l.length:=by unfold M1.fold; simp
theorem bs_sz (l : List UInt8) : (bs l).size = l.length:=by unfold bs; rfl
theorem tw_len (p : UInt8 → Bool) (l : List UInt8) : (l.takeWhile p).length ≤ l.length:=(List.takeWhile_prefix p).length_le
theorem upto_Q (w l : List UInt8) : (uptoR w l).1.length + (uptoR w l).2.length ≤ l.length:=by
  unfold uptoR
  have:=findL_le w l
  split
  · show (l.take _).length + (l.drop _).length ≤ _
    rw [List.length_take,List.length_drop]; omega
  · show l.length + 0 ≤ _; omega
theorem tag_Q (l : List UInt8) (h : startsB l = true) : ((tagR l).1.kind ≠ 0 → TB l.length (tagR l).1) ∧ tokQ (tagR l).1 + (tagR l).2.length ≤ l.length:=by
  match l with
  | [] => cases h
  | [c] => cases h
  | c :: d :: r =>
    have hlen : (c :: d :: r).length = r.length + 2:=rfl
    rw [tagR,if_pos h]
    show ((if letterB d then _ else _ : Tok × List UInt8).1.kind ≠ 0 → TB _ (if letterB d then _ else _ : Tok × List UInt8).1) ∧ tokQ (if letterB d then _ else _ : Tok × List UInt8).1 + (if letterB d then _ else _ : Tok × List UInt8).2.length ≤ _
    have zq : ∀ x : List UInt8,x.length + 1 ≤ r.length + 2 → ((zero,x) : Tok × List UInt8).1.kind ≠ 0 → False:=fun x _ k => k rfl
    split
    · rw [begin_eq]
      cases ha : attsR (((c :: d :: r).drop 1).dropWhile nameB) [] with
      | none => exact ⟨fun k => absurd rfl k,by show 1 + 0 ≤ _; omega⟩
      | some p =>
        have h1:=atts_count _ _ _ p.1 p.2 ha
        have h2:=(Suf.dropWhile nameB ((c :: d :: r).drop 1)).le
        have h3 : ((c :: d :: r).drop 1).length = r.length + 1:=rfl
        have h4:=tw_len nameB ((c :: d :: r).drop 1)
        simp only [List.length_nil] at h1
        refine ⟨fun _ => ⟨?_,?_,?_,.inl rfl⟩,?_⟩
        · show (bs _).size ≤ _
          rw [bs_sz,fold_len]; omega
        · show (0 : Nat) ≤ _; omega
        · show p.1.length ≤ _; omega
        · show 1 + p.1.length + 0 + p.2.length ≤ _; omega
    · split
      · have h1:=upto_Q [45,45,62] ((c :: d :: r).drop 4)
        rw [List.length_drop] at h1
        refine ⟨fun _ => ⟨?_,?_,?_,.inr (.inr (.inr rfl))⟩,?_⟩
        · show (0 : Nat) ≤ _; omega
        · show (bs _).size ≤ _; rw [bs_sz]; omega
        · show (0 : Nat) ≤ _; omega
        · show 1 + 0 + (bs _).size + _ ≤ _
          rw [bs_sz]
          show 1 + 0 + (uptoR [45,45,62] ((c :: d :: r).drop 4)).1.length + (uptoR [45,45,62] ((c :: d :: r).drop 4)).2.length ≤ _
          omega
      · split
        · refine ⟨fun k => absurd rfl k,?_⟩
          show 1 + ((c :: d :: r).drop 3).length ≤ _
          rw [List.length_drop]; omega
        · split
          · split
            · have h4:=tw_len nameB r
              refine ⟨fun _ => ⟨?_,?_,?_,.inr (.inl rfl)⟩,?_⟩
              · show (bs _).size ≤ _; rw [bs_sz,fold_len]; omega
              · show (0 : Nat) ≤ _; omega
              · show (0 : Nat) ≤ _; omega
              · show 1 + 0 + 0 + (r.drop _).length ≤ _
                rw [List.length_drop]; omega
            · exact ⟨fun k => absurd rfl k,by show 1 + 0 ≤ _; omega⟩
          · have h1:=upto_Q [62] r
            refine ⟨fun _ => ⟨?_,?_,?_,.inr (.inr (.inr rfl))⟩,?_⟩
            · show (0 : Nat) ≤ _; omega
            · show (bs _).size ≤ _; rw [bs_sz]; omega
            · show (0 : Nat) ≤ _; omega
            · show 1 + 0 + (bs _).size + (uptoR [62] r).2.length ≤ _
              rw [bs_sz]; omega
def qs (l : List Tok) : Nat:=(l.map tokQ).sum
theorem qs_app (a b : List Tok) : qs (a ++ b) = qs a + qs b:=by unfold qs; rw [List.map_append,List.sum_append]
theorem qs_nil : qs [] = 0:=rfl
theorem qs_one (t : Tok) : qs [t] = tokQ t:=by unfold qs; simp
theorem chars_Q (p : List UInt8) : qs (charsT p) ≤ 5 * p.length ∧ ∀ t ∈ charsT p,TB p.length t:=by
  unfold charsT
  cases p with
  | nil => exact ⟨Nat.le_refl _,fun t h => (nomatch h)⟩
  | cons c r =>
    have h:=M2.decode_len (c :: r).length (c :: r) (Nat.le_refl _)
    rw [if_neg (by simp)]
    refine ⟨?_,fun t ht => ?_⟩
    · rw [qs_one]
      show 1 + 0 + (bs _).size ≤ _
      rw [bs_sz]; simp only [List.length_cons] at *; omega
    · obtain rfl:=List.mem_singleton.1 ht
      refine ⟨?_,?_,?_,.inr (.inr (.inl rfl))⟩
      · show (0 : Nat) ≤ _; omega
      · show (bs _).size ≤ _; rw [bs_sz]; exact h
      · show (0 : Nat) ≤ _; omega
theorem asIs_Q (p : List UInt8) : qs (asIs p) ≤ 5 * p.length ∧ ∀ t ∈ asIs p,TB p.length t:=by
  unfold asIs
  cases p with
  | nil => exact ⟨Nat.le_refl _,fun t h => (nomatch h)⟩
  | cons c r =>
    rw [if_neg (by simp)]
    refine ⟨?_,fun t ht => ?_⟩
    · rw [qs_one]
      show 1 + 0 + (bs _).size ≤ _
      rw [bs_sz]; simp only [List.length_cons] at *; omega
    · obtain rfl:=List.mem_singleton.1 ht
      refine ⟨?_,?_,?_,.inr (.inr (.inl rfl))⟩
      · show (0 : Nat) ≤ _; omega
      · show (bs _).size ≤ _; rw [bs_sz]; omega
      · show (0 : Nat) ≤ _; omega
theorem raw_Q (t : Tok) (l : List UInt8) : qs (rawT t l).1 + 5 * (rawT t l).2.length ≤ 5 * l.length ∧ (rawT t l).2.length ≤ l.length ∧ ∀ x ∈ (rawT t l).1,TB l.length x:=by
  unfold rawT
  split
  · have hle:=endN_le t.name.data.toList l
    have h:=asIs_Q (l.take (endN t.name.data.toList l))
    have hl : (l.take (endN t.name.data.toList l)).length = endN t.name.data.toList l:=by rw [List.length_take]; omega
    refine ⟨?_,?_,fun x hx => (h.2 x hx).mono (by omega)⟩
    · have:=h.1
      show qs (asIs _) + 5 * (l.drop _).length ≤ _
      rw [List.length_drop]; omega
    · show (l.drop _).length ≤ _
      rw [List.length_drop]; omega
  · exact ⟨by show qs [] + 5 * l.length ≤ _; rw [qs_nil]; omega,Nat.le_refl _,fun x h => (nomatch h)⟩
theorem toks_Q : ∀ (n : Nat) (l p : List UInt8),l.length ≤ n → qs (toksR p l) ≤ 5 * (p.length + l.length) ∧ ∀ t ∈ toksR p l,TB (p.length + l.length) t:=by
  intro n
  induction n with
  | zero =>
    intro l p hl
    obtain rfl : l = []:=List.eq_nil_of_length_eq_zero (by omega)
    rw [toksR_nil]
    exact chars_Q p
  | succ n ih =>
    intro l p hl
    cases l with
    | nil => rw [toksR_nil]; exact chars_Q p
    | cons c r =>
      cases hs : startsB (c :: r)
      · rw [toksR_text p c r hs]
        have:=ih r (p ++ [c]) (by simp at hl; omega)
        rw [List.length_append,List.length_singleton] at this
        rw [List.length_cons,show p.length + (r.length + 1) = p.length + 1 + r.length by omega]
        exact this
      · rw [toksR_tag p _ hs]
        have hlt:=tag_lt _ hs
        obtain ⟨t1,t2⟩:=tag_Q _ hs
        have hc:=chars_Q p
        obtain ⟨r1,r2,r3⟩:=raw_Q (tagR (c :: r)).1 (tagR (c :: r)).2
        generalize rawT (tagR (c :: r)).1 (tagR (c :: r)).2 = R at *
        generalize tagR (c :: r) = T at *
        generalize c :: r = L at *
        obtain ⟨i1,i2⟩:=ih R.2 [] (by omega)
        rw [List.length_nil,Nat.zero_add] at i1 i2
        have hk : qs (if T.1.kind ≠ 0 then [T.1] else []) ≤ tokQ T.1:=by
          split
          · rw [qs_one]; exact Nat.le_refl _
          · exact Nat.zero_le _
        refine ⟨?_,fun t ht => ?_⟩
        · rw [qs_app,qs_app,qs_app]
          have:=hc.1
          omega
        · rcases List.mem_append.1 ht with h | h
          · exact (hc.2 t h).mono (by omega)
          rcases List.mem_append.1 h with h | h
          · by_cases hk0 : T.1.kind ≠ 0
            · rw [if_pos hk0] at h
              obtain rfl:=List.mem_singleton.1 h
              exact (t1 hk0).mono (by omega)
            · rw [if_neg hk0] at h
              exact (nomatch h)
          rcases List.mem_append.1 h with h | h
          · exact (r3 t h).mono (by omega)
          · exact (i2 t h).mono (by omega)
theorem toks_fit (l : List UInt8) (h : l.length ≤ 80000) : FitL (tokens l) ∧ (tokens l).length ≤ 400000:=by
  obtain ⟨h1,h2⟩:=toks_Q l.length l [] (Nat.le_refl _)
  rw [List.length_nil,Nat.zero_add] at h1 h2
  have h3 : (List.map tokQ (tokens l)).sum ≤ 400000:=by
    have : qs (toksR [] l) ≤ 5 * l.length:=h1
    unfold qs at this
    show (List.map tokQ (toksR [] l)).sum ≤ _
    omega
  refine ⟨⟨h3,fun t ht => ?_⟩,by have:=len_sumQ (tokens l); omega⟩
  obtain ⟨a,b,c,d⟩:=h2 t ht
  refine ⟨⟨by omega,by omega,by omega⟩,?_⟩
  rcases d with e | e | e | e <;> rw [e] <;> decide
end M5
end Go.Proofs.YteefodibpjgicaaGreat
