/- Texts joined: Tell, Dom6, Dom7, Lives3. -/
import Derived.RangeFuncNested
import Derived.RangeFuncBound
import Derived.RangeFuncLeaves
import Derived.Shelf.Abstract
import Derived.OwnWalkIn
import Derived.TacticsInMore
import Derived.LoopNIn
import Derived.LoopIn
import Derived.Test.YteefodibpjgicaaGreatA14
namespace Go.Proofs.YteefodibpjgicaaGreat
open Go.RowKit Go.Shelf
attribute [local go_sem] Oper.semAt_some
structure It (S : Nat → Prop) (w0 : World) where
  x : Nd
  ah : Int
  va : Value
  vk : Value
  rep : RepV S w0 x va vk
  fit : Fit1 x
def It.args {S : Nat → Prop} {w0 : World} (t : It S w0) : Array Value:=#[t.x.val t.va t.vk,.int .i64 t.ah]
abbrev It.pair {S : Nat → Prop} {w0 : World} (t : It S w0) : Nd × Int:=(t.x,t.ah)
def Tells (S : Nat → Prop) (w0 : World) : Int → List Value → List Nd → List (It S w0) → Prop
  | _,xs,[],T => xs = [] ∧ T = []
  | a,xs,.mk k n ats t ks :: r,T => ∃ (i : It S w0) (zs ys : List Value) (T1 T2 : List (It S w0)),i.x = .mk k n ats t ks ∧ i.ah = a ∧ xs = i.x.cells i.va i.vk ++ ys ∧ Row S w0 5 i.vk ks.length zs ∧ T = i :: (T1 ++ T2) ∧ Tells S w0 0 zs ks T1 ∧ Tells S w0 k ys r T2
termination_by _ _ l _ => SizeOf.sizeOf l
theorem Tells.cons_iff {S : Nat → Prop} {w0 : World} {a : Int} {xs : List Value} {x : Nd} {r : List Nd} {T : List (It S w0)} :
    Tells S w0 a xs (x :: r) T ↔ ∃ (i : It S w0) (zs ys : List Value) (T1 T2 : List (It S w0)),i.x = x ∧ i.ah = a ∧ xs = i.x.cells i.va i.vk ++ ys ∧ Row S w0 5 i.vk x.kids.length zs ∧ T = i :: (T1 ++ T2) ∧ Tells S w0 0 zs x.kids T1 ∧ Tells S w0 x.kind ys r T2:=by
  cases x; rw [Tells]; rfl
def FitN : List Nd → Prop
  | [] => True
  | .mk k n a t ks :: r => Fit1 (.mk k n a t ks) ∧ FitN ks ∧ FitN r
termination_by l => SizeOf.sizeOf l
theorem fitN_nil : FitN []:=by rw [FitN]; trivial
theorem fitN_cons {x : Nd} {r : List Nd} : FitN (x :: r) ↔ Fit1 x ∧ FitN x.kids ∧ FitN r:=by cases x; rw [FitN]; rfl
theorem tells_of {S : Nat → Prop} {w0 : World} (l : List Nd) : ∀ (a : Int) (xs : List Value),RepC S w0 xs l → FitN l → ∃ T,Tells S w0 a xs l T ∧ T.map It.pair = M3.seqN a l:=by
  induction l using Nd.ind with
  | h0 => intro a xs h _; rw [RepC] at h; exact ⟨[],by rw [Tells]; exact ⟨h,rfl⟩,by rw [M3.seqN_nil]; rfl⟩
  | h1 k n ats t ks r ih1 ih2 =>
    intro a xs h hf
    obtain ⟨va,vk,ys,h1,h2,⟨zs,h3,h4⟩,h5⟩:=RepC.cons_iff.1 h
    obtain ⟨f1,f2,f3⟩:=fitN_cons.1 hf
    obtain ⟨T1,t1,e1⟩:=ih1 0 zs h4 f2
    obtain ⟨T2,t2,e2⟩:=ih2 k ys h5 f3
    refine ⟨⟨.mk k n ats t ks,a,va,vk,⟨h2,⟨zs,h3,h4⟩⟩,f1⟩ :: (T1 ++ T2),Tells.cons_iff.2 ⟨_,zs,ys,T1,T2,rfl,rfl,by rw [h1]; rfl,h3,rfl,t1,t2⟩,?_⟩
    rw [M3.seqN_cons,List.map_cons,List.map_append,e1,e2]
    rfl
theorem room_none {F : Fence} (hd : F.depth = none) (k : Nat) : F.room k:=fun d h => by rw [hd] at h; cases h
theorem yield_deep {F : Fence} (hd : F.depth = none) {m : Nat} (m' : Nat) {P : Program} {l : Nat} {args : Array Value} {W : World} {R : Ending → World → Prop} (h : YieldAt F m P l args W R) : YieldAt F m' P l args W R:=by
  obtain ⟨fn,tmps,assign,body,hy,hR⟩:=h
  exact ⟨fn,tmps,assign,body,hy,hR.1,fun c cs _ => hR.2 c cs (room_none hd _)⟩
theorem weight_mem {x : Nd} {l : List Nd} (h : x ∈ l) : M3.weight x.kids < M3.weight l:=by
  induction l with
  | nil => cases h
  | cons y r ih =>
    rw [M3.weight_cons]
    rcases List.mem_cons.1 h with rfl | h
    · omega
    · have:=ih h; omega
structure Kp5 (n₀ n₁ : Nat) (W W' : World) : Prop where
  low : Below n₀ W W'
  five : ∀ (b : Nat) (cs : Array Value) (t : TypeId),n₁ ≤ b → cs.size = 5 → W.heap[b]? = some (.cells cs t (0,0)) → W'.heap[b]? = some (.cells cs t (0,0))
section
variable {n₀ n₁ : Nat} {A B C : World}
theorem Kp5.refl (A : World) : Kp5 n₀ n₁ A A:=⟨Below.refl _ _,fun _ _ _ _ _ h => h⟩
theorem Kp5.trans (h : Kp5 n₀ n₁ A B) (k : Kp5 n₀ n₁ B C) : Kp5 n₀ n₁ A C:=⟨h.low.trans k.low,fun b cs t hb hc h1 => k.five b cs t hb hc (h.five b cs t hb hc h1)⟩
theorem Kp5.of_below (h : Below A.heap.size A B) (hn : n₀ ≤ A.heap.size) : Kp5 n₀ n₁ A B:=⟨h.mono hn,fun b _ _ _ _ h1 => (h.block b (Array.getElem?_eq_some_iff.1 h1).1).trans h1⟩
theorem Kp5.box (h : Kp5 n₀ n₁ A B) {g : Nat} {t : TypeId} {x : Nd} {va vk : Value} (hb : Box A g t (x.cells va vk)) (hg : n₁ ≤ g) : Box B g t (x.cells va vk):=h.five g _ t hg rfl hb
theorem kp5_b {w : World} (hn : n₀ ≤ w.heap.size) (W : World) (l : Nat) (o o' : Obj) (hl : w.heap.size ≤ l) (h : W.heap[l]? = some o) (hc : o.isCells = false) (hw : o.isWalk = false) : Kp5 n₀ n₁ W (W.putObj l o') :=
  ⟨belowK_b hn W l o o' hl h hc hw,fun b _ _ _ _ h1 => ((grownBy_putObj' W l o').block b (Array.getElem?_eq_some_iff.1 h1).1 (fun e => by cases e; rw [h1] at h; cases h; cases hc)).trans h1⟩
end
set_option maxRecDepth 100000 in
set_option maxHeartbeats 4000000 in
theorem domTell (F : Fence) (hd : F.depth = none) (h6 : F.fn 74) (hro : F.round = none) (S : Nat → Prop) (w0 : World) (l0 n₀ n₁ N : Nat) (hS : ∀ b,S b → b < n₀) (J Jx : List (It S w0) → World → Prop) (B0 : Nat) (hJ : AbidesFrom B0 J)
    (hY : ∀ m pre x W,J pre W → pre.length < N → YieldAt F m Tryz.prog l0 x.args W fun e W' =>
      (e = .returned (.bool true) ∧ J (pre ++ [x]) W' ∧ Kp5 n₀ n₁ W W') ∨ (e = .returned (.bool false) ∧ Jx (pre ++ [x]) W')) (wt : Nat) :
    ∀ (l : List Nd),M3.weight l < wt → ∀ (n : Nat) (v : Value) (zs : List Value) (T : List (It S w0)) (pre : List (It S w0)) (W : World),Row S w0 5 v l.length zs → Tells S w0 0 zs l T → Below n₀ w0 W → n₀ ≤ n₁ → n₁ ≤ W.heap.size → J pre W → pre.length + T.length ≤ N →
      CallsIn F n Tryz.prog 74 #[v,.func (.yield l0) #[] #[]] W fun e W' =>
        (e = .returned (.bool true) ∧ J (pre ++ T) W' ∧ Kp5 n₀ n₁ W W') ∨ (e = .returned (.bool false) ∧ ∃ q,q <+: T ∧ Jx (pre ++ q) W'):=by
  induction wt with
  | zero => intro l h; omega
  | succ wt ih =>
    intro l hwt n v zs T pre W hrow ht hb hn0 hn1 hj hN
    obtain ⟨a,cap,rfl⟩:=hrow.slice
    obtain ⟨_,hlc,hcm⟩:=hrow.len
    have hdd : ∀ k : Nat,(F.depth.isSome = true → 1 ≤ k):=fun k h => by rw [hd] at h; cases h
    refine callsIn_of_wp Tryz.func74 rfl h6 ?_ hro
    simp only [Tryz.ntmps74,List.size_toArray,List.length_cons,List.length_nil,Nat.reduceAdd,Nat.reduceSub,Array.replicate_succ,Array.replicate_zero,List.push_toArray,List.append_toArray,List.nil_append,List.cons_append]
    gi_wp2
    gi_loopw [5,10] (fun u5 u10 wr => ∃ (i : Nat) (ah : Int) (T1 T2 : List (It S w0)),i ≤ l.length ∧ u10 = .int .i64 (i : Int) ∧ u5 = .int .i64 ah ∧ T = T1 ++ T2 ∧ Tells S w0 ah (zs.drop (i * 5)) (l.drop i) T2 ∧ J (pre ++ T1) wr ∧ Kp5 n₀ n₁ W wr) (fun _ u10 _ => l.length - (intOf u10).toNat)
    case atStart => exact ⟨0,0,[],T,by omega,rfl,rfl,rfl,ht,by simpa using hj,Kp5.refl _⟩
    case round =>
      obtain ⟨i,ah,T1,T2,hi,rfl,rfl,hT,htl,hJ1,hk1⟩:=hrel
      have hz1:=hk1.low.size
      by_cases hlt : i < l.length
      · have hdr : l.drop i = l[i] :: l.drop (i + 1):=List.drop_eq_getElem_cons hlt
        rw [hdr] at htl
        obtain ⟨it,zs',ys,Ta,Tb,e1,rfl,e2,hrk,rfl,hta,htb⟩:=Tells.cons_iff.1 htl
        have hwk:=weight_mem (List.getElem_mem hlt)
        rw [← e1] at hwk hrk hta htb
        have hys : ys = zs.drop ((i + 1) * 5):=by
          rw [show (i + 1) * 5 = i * 5 + 5 by omega,← List.drop_drop,e2]; rfl
        subst hys
        clear htl hdr e1
        rcases it with ⟨x,ah,va,vk,hrep,hfit⟩
        obtain ⟨a2,cap2,rfl⟩:=hrep.at_.slice
        obtain ⟨a3,cap3,rfl⟩:=hrep.kids.slice
        dsimp only at *
        have hbw:=hb.trans hk1.low
        obtain ⟨_,a',cap',hsl,_,_,_,hcl⟩:=hrow.keep (w':=wr) (fun b h => (hb.trans hk1.low).block b (hS b h))
        cases hsl
        obtain ⟨b,off,rfl,hSb,hcl⟩:=hcl (by omega)
        have hz5 : ∀ j u,(x.cells (.slice a2 x.attrs.length cap2) (.slice a3 x.kids.length cap3))[j]? = some u → wr.cell? ⟨b,off + i * 5 + j,none⟩ = some u:=by
          intro j u hu
          rw [Nat.add_assoc]
          refine hcl _ u ?_
          rw [← List.getElem?_drop,e2,List.getElem?_append_left (by have:=(List.getElem?_eq_some_iff.1 hu).1; exact this)]
          exact hu
        have c0:=hz5 0 _ rfl
        have c1:=hz5 1 _ rfl
        have c2:=hz5 2 _ rfl
        have c3:=hz5 3 _ rfl
        have c4:=hz5 4 _ rfl
        simp only [Nat.add_zero] at c0
        have hbl:=hS b hSb
        have hJa : J (pre ++ T1) (wr.alloc (.cells (x.cells (.slice a2 x.attrs.length cap2) (.slice a3 x.kids.length cap3)).toArray 41)):=hJ _ wr _ none hJ1 (World.grownBy_alloc _ _ _) (fun r e => by cases e)
        have hbx:=Box.new wr 41 (x.cells (.slice a2 x.attrs.length cap2) (.slice a3 x.kids.length cap3))
        have hlen : (pre ++ T1).length < N:=by rw [hT] at hN; simp at hN ⊢; omega
        have hyy:=fun m => yield_deep hd m (hY m _ ⟨x,ah,_,_,hrep,hfit⟩ _ hJa hlen)
        obtain ⟨fn,tmps,assign,body,hy,hR⟩:=hyy (n - 1)
        dsimp only [It.args,Nd.val] at hy
        have hihk:=ih x.kids (by omega) (n - 1) (.slice a3 x.kids.length cap3) zs' Ta
        have hkc : Kp5 n₀ n₁ W (wr.alloc (.cells (x.cells (.slice a2 x.attrs.length cap2) (.slice a3 x.kids.length cap3)).toArray 41)):=hk1.trans (Kp5.of_below ((Below.refl _ _).alloc (Nat.le_refl _) _) (by omega))
        replace hihk:=Lib.hid hihk
        replace hz5:=Lib.hid hz5
        replace hcl:=Lib.hid hcl
        replace hT:=Lib.hid hT
        replace e2:=Lib.hid e2
        clear hyy
        gi_wp2_with (fail)
        refine hR.mono ?_
        clear hR
        rintro e W2 (⟨rfl,hJ2,hk2⟩ | ⟨rfl,hx2⟩)
        · have hb2:=hk2.box hbx (by omega)
          have d4:=hb2.cell (i:=4) rfl
          have hJ2':=hJ2
          have hz2:=hk2.low.size
          simp only [World.size_alloc] at hz2
          have hih2:=hihk.out (pre ++ T1 ++ [⟨x,ah,_,_,hrep,hfit⟩]) W2 hrk hta (hb.trans (hkc.trans hk2).low) hn0 (by omega) hJ2 (by have:=hT.out; rw [this] at hN; simp at hN ⊢; omega)
          replace hih2:=Lib.hid hih2
          clear hihk
          gi_wp2_with (fail)
          refine hih2.out.mono ?_
          rintro e W3 (⟨rfl,hJ3,hk3⟩ | ⟨rfl,q,hq,hx3⟩)
          · have hb3:=hk3.box hb2 (by omega)
            have f0:=hb3.cell (i:=0) rfl
            clear hih2 d4
            gi_wp2_with (fail)
            go_roundw
            case rel => exact ⟨i + 1,x.kind,T1 ++ (⟨x,ah,_,_,hrep,hfit⟩ :: Ta),Tb,by omega,by go_num,rfl,by rw [hT.out]; simp,htb,by simpa [List.append_assoc] using hJ3,(hkc.trans hk2).trans hk3⟩
            case measure => simp [intOf]; omega
          · gi_wp2_with (fail)
            go_ret
            refine .inr ⟨rfl,T1 ++ ⟨x,ah,_,_,hrep,hfit⟩ :: q,?_,by simpa [List.append_assoc] using hx3⟩
            obtain ⟨q2,rfl⟩:=hq
            exact ⟨q2 ++ Tb,by rw [hT.out]; simp⟩
        · first
          | (refine ⟨fun _ h => (by cases h),?_⟩; gi_wp2_with (fail))
          | gi_wp2_with (fail)
          go_ret
          refine .inr ⟨rfl,T1 ++ [⟨x,ah,_,_,hrep,hfit⟩],?_,by simpa [List.append_assoc] using hx2⟩
          exact ⟨Ta ++ Tb,by rw [hT.out]; simp⟩
      · have hil : i = l.length:=by omega
        subst hil
        rw [List.drop_length,Tells] at htl
        obtain ⟨_,rfl⟩:=htl
        have hT2 : T = T1:=by rw [hT]; simp
        clear hT
        replace hT2:=Lib.hid hT2
        gi_wp2_with (fail)
        go_ret
        exact .inl ⟨rfl,by rw [hT2.out]; exact hJ1,hk1⟩
set_option maxHeartbeats 1000000 in
theorem domEach1 (F : Fence) (hd : F.depth = none) (n : Nat) (h5 : F.fn 73) (h6 : F.fn 74) (hro : F.round = none) (S : Nat → Prop) (w0 : World) (l0 Bt n₀ n₁ : Nat) (hS : ∀ b,S b → b < n₀) (v : Value) (l : List Nd) (zs : List Value) (T : List (It S w0)) (J Jx : List (It S w0) → World → Prop) (B0 : Nat) (hJ : AbidesFrom B0 J)
    (hY : ∀ pre x W,J pre W → pre.length < T.length → YieldAt F (n - 1) Tryz.prog l0 x.args W fun e W' =>
      (e = .returned (.bool true) ∧ J (pre ++ [x]) W' ∧ Kp5 n₀ n₁ W W') ∨ (e = .returned (.bool false) ∧ Jx (pre ++ [x]) W'))
    (W : World) (hBt : W.cell? ⟨Bt,0,none⟩ = some v) (hrow : Row S w0 5 v l.length zs) (ht : Tells S w0 0 zs l T) (hb : Below n₀ w0 W) (hn0 : n₀ ≤ n₁) (hn1 : n₁ ≤ W.heap.size) (h0 : J [] W) :
    CallsIn F n Tryz.prog 73 #[.func (.yield l0) #[] #[],.pointer (some ⟨Bt,0,none⟩)] W fun e W' => (∃ v,e = .returned v) ∧
      ((∃ ys,ys = T ∧ J ys W') ∨ (∃ pre,pre <+: T ∧ Jx pre W')):=by
  have hdd : ∀ k : Nat,(F.depth.isSome = true → 1 ≤ k):=fun k h => by rw [hd] at h; cases h
  have hp:=domTell F hd h6 hro S w0 l0 n₀ n₁ T.length hS J Jx B0 hJ (fun m pre x W hj hl => yield_deep hd m (hY pre x W hj hl)) (M3.weight l + 1) l (by omega) (n - 1) v zs T [] W hrow ht hb hn0 hn1 h0 (by simp)
  refine callsIn_of_wp Tryz.func73 rfl h5 ?_ hro
  simp only [Tryz.ntmps73,List.size_toArray,List.length_cons,List.length_nil,Nat.reduceAdd,Nat.reduceSub,Array.replicate_succ,Array.replicate_zero,List.push_toArray,List.append_toArray,List.nil_append,List.cons_append]
  replace hp:=Lib.hid hp
  gi_wp2_with (fail)
  refine hp.out.mono ?_
  rintro e W1 (⟨rfl,hJ1,_⟩ | ⟨rfl,q,hq,hx⟩)
  · gi_wp2_with (fail)
    go_end0
    exact ⟨⟨_,rfl⟩,.inl ⟨_,rfl,by simpa using hJ1⟩⟩
  · gi_wp2_with (fail)
    go_end0
    exact ⟨⟨_,rfl⟩,.inr ⟨q,hq,by simpa using hx⟩⟩
set_option maxHeartbeats 1000000 in
theorem domEach (F : Fence) (n : Nat) (h4 : F.fn 53) (hro : F.round = none) (a : Option Addr) (len cap : Nat) (w : World) :
    CallsIn F n Tryz.prog 53 #[.slice a len cap] w fun e w' => e = .returned (.func (.func 73) #[] #[.pointer (some ⟨w.heap.size,0,none⟩)]) ∧ w.alloc (.cells #[.slice a len cap] 25) = w':=by
  refine callsIn_of_wp Tryz.func53 rfl h4 ?_ hro
  simp only [Tryz.ntmps53,List.size_toArray,List.length_cons,List.length_nil,Nat.reduceAdd,Nat.reduceSub,Array.replicate_succ,Array.replicate_zero,List.push_toArray,List.append_toArray,List.nil_append,List.cons_append]
  gi_wp2
  go_ret
  exact ⟨rfl,rfl⟩
theorem eachStops (F : Fence) (hd : F.depth = none) (n : Nat) (h5 : F.fn 73) (h6 : F.fn 74) (hro : F.round = none) (S : Nat → Prop) (w0 : World) (Bt n₀ n₁ : Nat) (hS : ∀ b,S b → b < n₀) (v : Value) (l : List Nd) (zs : List Value) (T : List (It S w0)) (w : World)
    (hBt : w.cell? ⟨Bt,0,none⟩ = some v) (hrow : Row S w0 5 v l.length zs) (ht : Tells S w0 0 zs l T) (hb : Below n₀ w0 w) (hn0 : n₀ ≤ n₁) (hn1 : n₁ ≤ w.heap.size) :
    SeqStopsK F n Tryz.prog 73 #[.pointer (some ⟨Bt,0,none⟩)] (It.args (S:=S) (w0:=w0)) (Kp5 n₀ n₁) (fun ys => ys = T) (fun pre => pre <+: T) T.length w:=fun l0 J Jx W hW hJ _ hY h0 =>
  domEach1 F hd n h5 h6 hro S w0 l0 Bt n₀ n₁ hS v l zs T J Jx W.heap.size hJ hY W ((hW.cell (p:=⟨Bt,0,none⟩) (World.block_lt_of_cell? w _ hBt)).trans hBt) hrow ht (hb.trans (hW.mono (by omega))) hn0 (Nat.le_trans hn1 hW.size) h0
end Go.Proofs.YteefodibpjgicaaGreat

namespace Go.Proofs.YteefodibpjgicaaGreat
open Go.RowKit Go.Shelf
attribute [local go_sem] Oper.semAt_some
theorem kf_of_below {B : Nat} {W W' : World} (h : Below W.heap.size W W') : KeepsFrom B W W':=⟨h.size,fun k _ _ hk _ => (h.block k (Array.getElem?_eq_some_iff.1 hk).1).trans hk⟩
theorem ownFrom_size {β : Type} (B k : Nat) : OwnFrom B (fun (_ : β) W => k ≤ W.heap.size):=fun _ _ _ _ hs hg _ => Nat.le_trans hs hg.size
theorem box_own {X Y : World} {row : Option Nat} {g : Nat} {t : TypeId} {cs : List Value} (h : Box X g t cs) (hg : X.grownBy Y row) (hr : ∀ r,row = some r → ∃ o : Obj,X.heap[r]? = some o ∧ o.isCells = false) : Box Y g t cs :=
  h.keep (hg.block g h.lt (fun e => by obtain ⟨o,ho,hc⟩:=hr g e.symm; rw [show X.heap[g]? = _ from h] at ho; cases ho; cases hc))
theorem It.shapes {S : Nat → Prop} {w0 : World} (x : It S w0) : (∃ a c,x.va = .slice a x.x.attrs.length c) ∧ ∃ a c,x.vk = .slice a x.x.kids.length c:=⟨x.rep.at_.slice,x.rep.kids.slice⟩
end Go.Proofs.YteefodibpjgicaaGreat

namespace Go.Proofs.YteefodibpjgicaaGreat
open Go.RowKit Go.Shelf
attribute [local go_sem] Oper.semAt_some
theorem firstE_prefix {a b : List (Nd × Int)} (h : a <+: b) (hn : M3.firstE a ≠ 0) : M3.firstE b = M3.firstE a:=by
  obtain ⟨c,rfl⟩:=h
  rw [M3.firstE_append,if_pos hn]
theorem firstE_snoc (a : List (Nd × Int)) (p : Nd × Int) (h : M3.firstE a = 0) : M3.firstE (a ++ [p]) = M3.oneE p.1 (p.2 == 2):=by
  rw [M3.firstE_append,if_neg (by simpa using h),M3.firstE,M3.firstE]
  split
  · rfl
  · rename_i h; simp at h; exact h.symm
set_option maxRecDepth 100000 in
set_option maxHeartbeats 4000000 in
theorem domMay_in (n : Nat) (hn : 4 ≤ n) (S : Nat → Prop) (v : Value) (l : List Nd) (w : World) (hS : ∀ b,S b → b < w.heap.size) (hr : RepN S w v l) (hf : FitN l) :
    CallsIn Fence.wide n Tryz.prog 36 #[v] w fun e W' => e = .returned (.int .i64 (M3.mayE false l)) ∧ Below w.heap.size w W':=by
  obtain ⟨zs,hrow,hrep⟩:=hr
  obtain ⟨T,hT,hTm⟩:=tells_of (S:=S) (w0:=w) l 0 zs hrep hf
  obtain ⟨a,cap,rfl⟩:=hrow.slice
  have hfirst : Hid (M3.firstE (T.map It.pair) = M3.mayE false l):=by
    show _ = _
    rw [hTm,M3.may_eq]; rfl
  clear hTm
  have hro : Fence.wide.round = none:=rfl
  have h1 : 1 ≤ n:=by omega
  refine callsIn_of_wp_marks Tryz.func36 rfl trivial ?_ hro
  simp only [Tryz.ntmps36,List.size_toArray,List.length_cons,List.length_nil,Nat.reduceAdd,Nat.reduceSub,Array.replicate_succ,Array.replicate_zero,List.push_toArray,List.append_toArray,List.nil_append,List.cons_append]
  gi_wp2_with (refine ⟨trivial,?_⟩; gi_at_call 53; refine (domEach Fence.wide (n - 1) trivial hro _ _ _ _).mono ?_; rintro e w' ⟨rfl,rfl⟩)
  have bW:=(Boxed.new w 32 (.int .i64 0)).alloc (.cells #[.slice a l.length cap] 25)
  have bL:=Boxed.new (w.alloc (.cells #[.int .i64 0] 32)) 25 (.slice a l.length cap)
  have hB0 : Below w.heap.size w ((w.alloc (.cells #[.int .i64 0] 32)).alloc (.cells #[.slice a l.length cap] 25)):=((Below.refl _ w).alloc (Nat.le_refl _) _).alloc (by simp) _
  have hsz : ((w.alloc (.cells #[.int .i64 0] 32)).alloc (.cells #[.slice a l.length cap] 25)).heap.size = w.heap.size + 2:=by simp
  simp only [World.size_alloc] at bL
  obtain ⟨W0,hW0⟩ : ∃ W0,(w.alloc (.cells #[.int .i64 0] 32)).alloc (.cells #[.slice a l.length cap] 25) = W0:=⟨_,rfl⟩
  rw [hW0] at bW bL hB0 hsz ⊢
  clear hW0
  refine wpIn_rangeFunc_ownH hro h1 (gf:=73) (lb:=#[.pointer (some ⟨w.heap.size + 1,0,none⟩)]) rfl trivial (enters_of Tryz.func73 (by kernel_rfl) rfl)
    (eachStops Fence.wide rfl (n - 1) trivial trivial hro S w (w.heap.size + 1) w.heap.size (w.heap.size + 2) hS _ l zs T W0 bL.cell hrow hT hB0 (by omega) (by omega))
    (fun h k => h.trans k) (kp5_b (by omega)) (Below.refl _ _) (fun _ => rfl)
    (fun pre W => (Boxed W w.heap.size 32 (.int .i64 0) ∧ Below w.heap.size w W ∧ w.heap.size + 2 ≤ W.heap.size) ∧ M3.firstE (pre.map It.pair) = 0)
    (fun c pre W => (Boxed W w.heap.size 32 (.int .i64 (M3.firstE (pre.map It.pair))) ∧ Below w.heap.size w W) ∧ (c = .ret ∧ M3.firstE (pre.map It.pair) ≠ 0))
    (OwnFrom.and (OwnFrom.and (Own.from (boxed_own _ _ (fun _ => .int .i64 0)) _) (OwnFrom.and (ownFrom_below (Nat.le_refl _) (by omega)) (ownFrom_size _ _))) (ownFrom_pure _ _))
    (fun c => OwnFrom.and (OwnFrom.and (Own.from (boxed_own _ _ (fun (s : List (It S w)) => .int .i64 (M3.firstE (s.map It.pair)))) _) (ownFrom_below (Nat.le_refl _) (by omega))) (ownFrom_pure _ _))
    ⟨⟨bW,hB0,by omega⟩,rfl⟩
    (fun x a' W => ∃ Bx,w.heap.size + 2 ≤ Bx ∧ Box W Bx 41 (x.x.cells x.va x.vk) ∧ a' = { tmps:=#[.slice a l.length cap,undef,.pointer (some ⟨w.heap.size,0,none⟩),.pointer (some ⟨Bx,0,none⟩),.int .i64 x.ah,undef,.slice a l.length cap,.func (.func 73) #[] #[.pointer (some ⟨w.heap.size + 1,0,none⟩)],x.x.val x.va x.vk,.int .i64 x.ah,undef,undef,undef,undef,undef,undef],defers:=[] })
    (fun x a' _ X Y row hs hg hr => by obtain ⟨Bx,h1,h2,h3⟩:=hs; exact ⟨Bx,h1,box_own h2 hg (fun r e => (hr r e).2),h3⟩)
    ?assign ?body ?done ?stop
  case assign =>
    rintro l0 pre x W K ⟨⟨bW1,hB1,hl1⟩,hp⟩ hK
    obtain ⟨⟨a1,c1,h1⟩,⟨a2,c2,h2⟩⟩:=x.shapes
    have hx : It.args x = #[x.x.val x.va x.vk,.int .i64 x.ah]:=rfl
    rw [hx]
    replace hK:=Lib.hid hK
    replace hp:=Lib.hid hp
    gi_wp2
    have hbox:=Box.new W 41 (x.x.cells x.va x.vk)
    rw [h1,h2] at hbox
    exact hK.out _ _ (kf_of_below ((Below.refl _ W).alloc (Nat.le_refl _) _)) (Kp5.of_below ((Below.refl _ W).alloc (Nat.le_refl _) _) hB1.size) ⟨⟨bW1.alloc _,hB1.alloc hB1.size _,by simp; omega⟩,hp.out⟩ ⟨W.heap.size,hl1,by rw [h1,h2]; exact hbox,by rw [h1,h2]⟩
  case body =>
    rintro l0 pre x a' W hl ⟨r,hr⟩ ⟨⟨bW1,hB1,hl1⟩,hp⟩ ⟨Bx,hBx,bX,rfl⟩ hlt
    have hrep1:=x.rep.below hS hB1
    have hft:=x.fit
    have hsn:=firstE_snoc (pre.map It.pair) (It.pair x) hp
    have hmp : (pre ++ [x]).map It.pair = pre.map It.pair ++ [It.pair x]:=by simp
    rw [← hmp] at hsn
    replace hsn:=Lib.hid hsn
    obtain ⟨⟨a1,c1,h1⟩,⟨a2,c2,h2⟩⟩:=x.shapes
    have hF:=Lib.hid (fun W hS hr => domFault S x.x x.va x.vk x.ah W hS hr hft)
    rw [h1,h2] at bX hF hrep1
    replace h1:=Lib.hid h1
    replace h2:=Lib.hid h2
    have cX0:=bX.cell (i:=0) rfl
    have cX1:=bX.cell (i:=1) rfl
    have cX2:=bX.cell (i:=2) rfl
    have cX3:=bX.cell (i:=3) rfl
    have cX4:=bX.cell (i:=4) rfl
    have hz1:=hB1.size
    clear hp hmp
    gi_wp2_with (fail)
    refine ⟨trivial,(fun h => by cases h),?_⟩
    refine (CallsIn.inRound l0 (callsIn_wide.2 (hF.out W (fun b h => by have:=hS b h; omega) hrep1))).mono ?_
    rintro e w1 ⟨rfl,hb1⟩
    have bW2 : Boxed w1 w.heap.size 32 (.int .i64 0):=(hb1.block _ bW1.lt).trans bW1
    have cW:=bW2.cell
    have fW:=bW2.frozen
    have hB2:=hB1.trans (hb1.mono hz1)
    have hl2 : w.heap.size + 2 ≤ w1.heap.size:=by have:=hb1.size; omega
    have hkf:=kf_of_below (B:=W0.heap.size) hb1
    have hkp:=Kp5.of_below (n₁:=w.heap.size + 2) hb1 hz1
    change Hid (M3.firstE ((pre ++ [x]).map It.pair) = M3.oneE x.x (x.ah == 2)) at hsn
    generalize M3.oneE x.x (x.ah == 2) = z at *
    by_cases hz : z = 0
    · subst hz
      gi_wp2_with (fail)
      exact ⟨hkf,hkp,⟨bW2,hB2,hl2⟩,hsn.out⟩
    · have hzb : (z == 0) = false:=by simpa using hz
      gi_wp2_with (fail)
      exact ⟨hkf.trans ((KeepsOthers.setCell _ _ _).from _),⟨by rw [hsn.out]; exact bW2.set _,hB2.setCell (p:=⟨w.heap.size,0,none⟩) (Nat.le_refl _) _⟩,rfl,by rw [hsn.out]; exact hz⟩
  case done =>
    rintro D ys W hD rfl ⟨⟨bW1,hB1,hl1⟩,hp⟩ hK
    have hp2:=Lib.hid (hfirst.out.symm.trans hp)
    have hcr:=bW1.cell
    have hfr:=bW1.frozen
    clear hp
    gi_wp2
    have hK':=(KeepsOthers.setCell W ⟨w.heap.size,0,none⟩ (.int .i64 0)).same D _ hK rfl
    refine ⟨by simp,.inl ⟨_,_,rfl,run_takeDeferred hK',?_⟩⟩
    have hc5:=cell_kept (World.cell?_setCell_same' W ⟨w.heap.size,0,none⟩ (.int .i64 0) (by rw [hcr]; rfl)) (grownBy_putObj' _ D (.deferred none)) (fun r e => by cases e; exact ⟨_,hK',rfl⟩)
    refine ⟨.int .i64 0,?_,by rw [hp2.out],(hB1.setCell (p:=⟨w.heap.size,0,none⟩) (Nat.le_refl _) _).trans (belowK_b (w:=w) (Nat.le_refl _) _ D _ _ (by omega) hK' rfl rfl)⟩
    simp [results,Tryz.f36,go_sem,hc5]
  case stop =>
    rintro D c pre W hD hpre ⟨⟨bW1,hB1⟩,rfl,hne⟩ hK
    have hfe : M3.firstE (pre.map It.pair) = M3.mayE false l:=by
      rw [← hfirst.out]
      exact (firstE_prefix (hpre.map It.pair) hne).symm
    rw [hfe] at bW1
    have hcr:=bW1.cell
    clear hfe hne
    gi_wp2
    refine ⟨by simp,.inl ⟨_,_,rfl,run_takeDeferred hK,?_⟩⟩
    have hc5:=cell_kept hcr (grownBy_putObj' _ D (.deferred none)) (fun r e => by cases e; exact ⟨_,hK,rfl⟩)
    refine ⟨.int .i64 (M3.mayE false l),?_,rfl,hB1.trans (belowK_b (w:=w) (Nat.le_refl _) W D _ _ (by omega) hK rfl rfl)⟩
    simp [results,Tryz.f36,go_sem,hc5]
theorem domMay (S : Nat → Prop) (v : Value) (l : List Nd) (w : World) (hS : ∀ b,S b → b < w.heap.size) (hr : RepN S w v l) (hf : FitN l) :
    Calls Tryz.prog 36 #[v] w fun e W' => e = .returned (.int .i64 (M3.mayE false l)) ∧ Below w.heap.size w W' :=
  callsIn_wide.1 (domMay_in 4 (by omega) S v l w hS hr hf)
end Go.Proofs.YteefodibpjgicaaGreat

namespace Go.Proofs.YteefodibpjgicaaGreat
open Go.RowKit
end Go.Proofs.YteefodibpjgicaaGreat
