/- Texts joined: BldN. -/
import Derived.Test.YteefodibpjgicaaGreatA35
namespace Go.Proofs.YteefodibpjgicaaGreat
open Go.RowKit Go.Shelf
attribute [local go_sem] Oper.semAt_some
def bkN (z : List Nd) (l : List Nd) : List Nd:=l.foldl (fun a x => [M7.el x (x.kids ++ a)]) z
theorem bkN_snoc (z : List Nd) (l : List Nd) (x : Nd) : bkN z (l ++ [x]) = [M7.el x (x.kids ++ bkN z l)]:=by unfold bkN; rw [List.foldl_append]; rfl
theorem bkN_len (z : List Nd) (hz : z.length ≤ 1) (l : List Nd) : (bkN z l).length ≤ 1:=by
  rcases List.eq_nil_or_concat l with rfl | ⟨A,x,rfl⟩
  · exact hz
  · rw [List.concat_eq_append,bkN_snoc]; simp
theorem bkN_tr (x : Nd) (r : List Nd) (z : List Nd) : bkN z (x :: r).reverse = [M7.el x (M7.tr (x :: r) z)]:=by
  induction r generalizing x with
  | nil => rfl
  | cons y r ih =>
    rw [List.reverse_cons,bkN_snoc,ih y]
    rfl
theorem Fresh.cells {W W' : World} {B : Nat} {v : Value} {l : List Nd} (h : Fresh W B v l) (hk : ∀ b : Nat,(∃ cs t,W.heap[b]? = some (Obj.cells cs t (0,0))) → W'.heap[b]? = W.heap[b]?) (hz : W.heap.size ≤ W'.heap.size) : Fresh W' B v l:=by
  obtain ⟨zs,G,h1,h2,h3⟩:=h
  exact ⟨zs,G,own_keep h1 (fun g hg => hk g (own_isCells h1 (by simp [hg]))),OwnC.keep _ _ _ (fun b hb => hk b (OwnC.isCells _ _ _ h2 b hb)) h2,h3.mono (Nat.le_refl _) hz⟩
def NI (gl : Nat) (W0 : World) (l : List Nd) (W : World) : Prop:=∃ v,Boxed W gl 25 v ∧ Fresh W (gl + 1) v l ∧ (l = [] → v = .slice none 0 0) ∧ Out (fun b => b = gl) W0 W
theorem NI.cells {gl : Nat} {W0 W W' : World} {l : List Nd} (h : NI gl W0 l W) (hk : ∀ b : Nat,(∃ cs t,W.heap[b]? = some (Obj.cells cs t (0,0))) → W'.heap[b]? = W.heap[b]?) (ho : Out (fun b => b = gl) W0 W') (hz : W.heap.size ≤ W'.heap.size) : NI gl W0 l W':=by
  obtain ⟨v,h1,h2,h4,h3⟩:=h
  exact ⟨v,(hk _ ⟨_,_,h1⟩).trans h1,h2.cells hk hz,h4,ho⟩
theorem NI.below {gl : Nat} {W0 W W' : World} {l : List Nd} (h : NI gl W0 l W) (hb : Below W.heap.size W W') : NI gl W0 l W' :=
  h.cells (fun b ⟨cs,t,hc⟩ => hb.block b (Array.getElem?_eq_some_iff.1 hc).1) (by obtain ⟨v,h1,h2,h4,h3⟩:=h; exact h3.below hb) hb.size
theorem NI.own {α : Type} {gl : Nat} {W0 : World} (f : List α → List Nd) : OwnFrom W0.heap.size (fun (pre : List α) W => NI gl W0 (f pre) W):=by
  intro s W W' row hs hg hr
  refine NI.cells hs (fun b ⟨cs,t,hc⟩ => hg.block b (Array.getElem?_eq_some_iff.1 hc).1 (fun e => by obtain ⟨_,o,ho,hcl⟩:=hr b e.symm; rw [hc] at ho; cases ho; cases hcl)) ?_ hg.size
  obtain ⟨v,h1,h2,h4,h3⟩:=hs
  exact ⟨hg.os.trans h3.os,hg.tape.trans h3.tape,hg.output.trans h3.output,Nat.le_trans h3.size hg.size,fun b hb hn => (hg.block b (Nat.lt_of_lt_of_le hb h3.size) (fun e => by have:=(hr b e.symm).1; omega)).trans (h3.block b hb hn)⟩
set_option maxHeartbeats 4000000 in
set_option maxRecDepth 100000 in
theorem bTold2 {F : Nat → Prop} {w : World} {g mb : Nat} {vo vt pt : Value} {fs : List FV} {tx : List UInt8} {n : Nat} {D : DataW Unit} (h : Bld F w g mb vo vt pt fs tx n D) (h0 : tx ≠ []) :
    Calls Tryz.prog 209 #[.pointer (some ⟨g,0,none⟩)] w fun e w' => e = .returned (textV tx) ∧ Bld F w' g mb vo vt pt fs tx n D ∧ Out F w w':=by
  have hgl:=h.box.lt
  have bz:=Box.new w 41 [.int .i64 0,.string ⟨#[]⟩,.slice none 0 0,.string ⟨#[]⟩,.slice none 0 0]
  have hb0 : Below w.heap.size w (w.alloc (.cells #[.int .i64 0,.string ⟨#[]⟩,.slice none 0 0,.string ⟨#[]⟩,.slice none 0 0] 41)):=(Below.refl _ w).alloc (Nat.le_refl _) _
  have hs0 : (w.alloc (.cells #[.int .i64 0,.string ⟨#[]⟩,.slice none 0 0,.string ⟨#[]⟩,.slice none 0 0] 41)).heap.size = w.heap.size + 1:=by simp
  change Box (w.alloc (.cells #[.int .i64 0,.string ⟨#[]⟩,.slice none 0 0,.string ⟨#[]⟩,.slice none 0 0] 41)) _ _ _ at bz
  have hB0:=h.below hb0
  have hC0 : Carry (idleB F g mb vo vt fs) (idleB F g mb vo vt fs) w (w.alloc (.cells #[.int .i64 0,.string ⟨#[]⟩,.slice none 0 0,.string ⟨#[]⟩,.slice none 0 0] 41)):=fun b hb => ⟨hb,hb0.block b (h.lt b hb.1)⟩
  have hlt:=h.lt
  replace hlt:=Lib.hid hlt
  replace hC0:=Lib.hid hC0
  replace hB0:=Lib.hid hB0
  replace bz:=Lib.hid bz
  go_enter Tryz.func209,Tryz.ntmps209
  go_wp2_with fail
  obtain ⟨w0,hw0⟩ : ∃ W,w.alloc (.cells #[.int .i64 0,.string ⟨#[]⟩,.slice none 0 0,.string ⟨#[]⟩,.slice none 0 0] 41) = W:=⟨_,rfl⟩
  rw [hw0] at bz hb0 hs0 hB0 hC0 ⊢
  clear hw0
  refine (bxString g _ _ _ _ tx w0 hB0.out.box hB0.out.text hB0.out.text_ne h0).mono ?_
  rintro e w1 ⟨rfl,hbx,htx,hT,hz⟩
  obtain ⟨hB1,hO1,hC1⟩:=hB0.out.txt (pt':=pt) (vt':=vt) hbx hB0.out.ptr htx (fun c hc => .inl hc) hT
  have bz1:=bz.out.keep (w':=w1) (hT.2.2.2.2 w.heap.size (by omega) (by omega) (fun e => by have:=hB0.out.role_lt (i:=3) e; have:=hlt.out _ (h.sub 3 _ e); omega))
  have q0:=bz1.cell (i:=0) rfl
  have q1:=bz1.cell (i:=1) rfl
  have q2:=bz1.cell (i:=2) rfl
  have q3:=bz1.cell (i:=3) rfl
  have q4:=bz1.cell (i:=4) rfl
  have fz:=bz1.free
  have bz2:=boxS5 bz1 (.int .i64 2) (.string ⟨#[]⟩) (.slice none 0 0) (.string ⟨tx.toArray⟩) (.slice none 0 0)
  have hfar:=farS5 w1 w.heap.size (.int .i64 2) (.string ⟨#[]⟩) (.slice none 0 0) (.string ⟨tx.toArray⟩) (.slice none 0 0)
  replace hB1:=Lib.hid hB1
  replace hO1:=Lib.hid hO1
  replace hC1:=Lib.hid hC1
  replace hfar:=Lib.hid hfar
  replace bz2:=Lib.hid bz2
  clear hbx htx hT
  go_wp2_with fail
  obtain ⟨w2,hw2⟩ : ∃ W,(((((w1.setCell ⟨w.heap.size,0,none⟩ (.int .i64 2)).setCell ⟨w.heap.size,1,none⟩ (.string ⟨#[]⟩)).setCell ⟨w.heap.size,2,none⟩ (.slice none 0 0)).setCell ⟨w.heap.size,3,none⟩ (.string ⟨tx.toArray⟩)).setCell ⟨w.heap.size,4,none⟩ (.slice none 0 0)) = W:=⟨_,rfl⟩
  rw [hw2] at bz2 hfar ⊢
  clear hw2 q0 q1 q2 q3 q4 fz
  have q0:=bz2.out.cell (i:=0) rfl
  have q1:=bz2.out.cell (i:=1) rfl
  have q2:=bz2.out.cell (i:=2) rfl
  have q3:=bz2.out.cell (i:=3) rfl
  have q4:=bz2.out.cell (i:=4) rfl
  have hzz:=hfar.out.size
  have hBF:=hB1.out.iff (F':=F) (fun b => ⟨fun hb => hb.elim id (fun e => by omega),.inl⟩)
  have hBf : Bld F w2 g mb vo vt pt fs tx n D:=hBF.keep (fun _ h => h) (fun b hb => by have:=hlt.out b hb; omega) (fun b hb => hfar.out.block b (by have:=hlt.out b hb; omega))
  refine bodyPost_ret (v:=textV tx) (by simp [results,Tryz.results209,go_sem,q0,q1,q2,q3,q4]) rfl ⟨rfl,hBf,?_⟩
  exact ⟨hfar.out.os.trans (hO1.out.os.trans hb0.os),hfar.out.tape.trans (hO1.out.tape.trans hb0.tape),hfar.out.output.trans (hO1.out.output.trans hb0.output),by omega,fun b hb hF => (hfar.out.block b (by omega)).trans ((hO1.out.block b (by omega) hF).trans (hb0.block b hb))⟩
theorem Fresh.join {W W1 : World} {B gg c2 : Nat} {v1 : Value} {l1 l2 : List Nd} {zs1 zs2 : List Value} {F1 F2 : List Nat} {mid : Nat} (h1 : OwnC W zs1 l1 F1) (h2 : OwnC W zs2 l2 F2) (hs1 : Span mid W.heap.size (v1.ownBlock.toList ++ F1)) (hs2 : Span B mid F2) (hBm : B ≤ mid) (hm : mid ≤ W.heap.size)
    (hgrow : W.grownBy W1 v1.ownBlock) (hat : v1.ownBlock = some gg ∨ gg = W.heap.size) (hown : W1.ownsRow B 41 5 (.slice (some ⟨gg,0,none⟩) (l1.length + l2.length) c2) (l1.length + l2.length) (zs1 ++ zs2)) : Fresh W1 B (.slice (some ⟨gg,0,none⟩) (l1.length + l2.length) c2) (l1 ++ l2):=by
  have hk : ∀ b,b < W.heap.size → v1.ownBlock ≠ some b → W1.heap[b]? = W.heap[b]?:=fun b hb hn => hgrow.block b hb (fun e => hn e.symm)
  have hn1:=List.nodup_append.1 hs1.1
  have hno : ∀ b ∈ F1,v1.ownBlock ≠ some b:=fun b hb e => hn1.2.2 b (by rw [e]; simp) b hb rfl
  have hv1 : ∀ b,v1.ownBlock = some b → mid ≤ b ∧ b < W.heap.size:=fun b e => hs1.2 b (by rw [e]; simp)
  have hF1 : ∀ b ∈ F1,mid ≤ b ∧ b < W.heap.size:=fun b hb => hs1.2 b (by simp [hb])
  have hgl : gg < W1.heap.size:=(hown.lt gg rfl).2
  refine ⟨zs1 ++ zs2,F1 ++ F2,by rw [List.length_append]; exact hown,OwnC.append (OwnC.keep _ _ _ (fun b hb => hk b (by have:=(hs2.2 b hb).2; omega) (fun e => by have:=(hv1 b e).1; have:=(hs2.2 b hb).2; omega)) h2) _ _ _ (OwnC.keep _ _ _ (fun b hb => hk b (hF1 b hb).2 (hno b hb)) h1),?_,fun b hb => ?_⟩
  · show ((some gg).toList ++ (F1 ++ F2)).Nodup
    rw [Option.toList_some,List.singleton_append,List.nodup_cons]
    refine ⟨fun hm' => ?_,List.nodup_append.2 ⟨hn1.2.1,hs2.1,fun a ha b hb e => by have:=(hF1 a ha).1; have:=(hs2.2 b hb).2; omega⟩⟩
    rcases List.mem_append.1 hm' with h | h
    · rcases hat with e | e
      · exact hno gg h e
      · have:=(hF1 gg h).2; omega
    · have h3:=(hs2.2 gg h).2
      rcases hat with e | e
      · have:=(hv1 gg e).1; omega
      · omega
  · have hz:=hgrow.size
    have hb : b ∈ (some gg).toList ++ (F1 ++ F2):=hb
    rw [Option.toList_some,List.singleton_append,List.mem_cons,List.mem_append] at hb
    rcases hb with rfl | hb | hb
    · rcases hat with e | e
      · have:=hv1 _ e; omega
      · omega
    · have:=hF1 b hb; omega
    · have:=hs2.2 b hb; omega
def NdI (Wb : World) (B : Nat) (ks l0 : List Nd) (f : Nat → Bool) (t : Nat → Value) (W : World) : Prop :=
  (f 3 = false → W = Wb.drew) ∧ (f 3 = true → f 5 = false → Below Wb.heap.size Wb W ∧ Fresh W Wb.heap.size (t 3) ks) ∧ (f 5 = true → Below Wb.heap.size Wb W ∧ Fresh W B (t 5) (ks ++ l0)) ∧ (f 6 = true → t 6 = t 5)
section
variable {Wb W W' : World} {B : Nat} {ks l0 : List Nd} {f : Nat → Bool} {t : Nat → Value}
theorem NdI.start : NdI Wb B ks l0 (fun i => decide (7 ≤ i)) t Wb.drew:=⟨fun _ => rfl,fun h => by simp at h,fun h => by simp at h,fun h => by simp at h⟩
theorem NdI.same (h : NdI Wb B ks l0 f t W) (i : Nat) (v : Value) (h3 : 3 ≠ i) (h5 : 5 ≠ i) (h6 : 6 ≠ i) : NdI Wb B ks l0 (updF f i) (updT t i v) W:=by
  unfold NdI
  rw [updF_ne _ h3,updF_ne _ h5,updF_ne _ h6,updT_ne _ _ h3,updT_ne _ _ h5,updT_ne _ _ h6]
  exact h
theorem NdI.clone {v : Value} (h5 : f 5 = false) (h6 : f 6 = false) (hb : Below Wb.heap.size Wb W') (hf : Fresh W' Wb.heap.size v ks) : NdI Wb B ks l0 (updF f 3) (updT t 3 v) W':=by
  unfold NdI
  rw [updF_self,updF_ne _ (by decide),updF_ne _ (by decide),updT_same,h5,h6]
  exact ⟨(fun h => by cases h),fun _ _ => ⟨hb,hf⟩,(fun h => by cases h),(fun h => by cases h)⟩
theorem NdI.app {v : Value} (h3 : f 3 = true) (h6 : f 6 = false) (hb : Below Wb.heap.size Wb W') (hf : Fresh W' B v (ks ++ l0)) : NdI Wb B ks l0 (updF f 5) (updT t 5 v) W':=by
  unfold NdI
  rw [updF_self,updF_ne _ (by decide),updF_ne _ (by decide),updT_same,h3,h6]
  exact ⟨(fun h => by cases h),(fun _ h => by cases h),fun _ => ⟨hb,hf⟩,(fun h => by cases h)⟩
theorem NdI.fin (h : NdI Wb B ks l0 f t W) : NdI Wb B ks l0 (updF f 6) (updT t 6 (t 5)) W:=by
  unfold NdI
  rw [updF_self,updF_ne _ (by decide),updF_ne _ (by decide),updT_same,updT_ne _ _ (by decide),updT_ne _ _ (by decide)]
  exact ⟨h.1,h.2.1,h.2.2.1,fun _ => rfl⟩
end
theorem lastly {Wb W : World} {gl : Nat} {v vc : Value} {ks l0 : List Nd} (hb : Below Wb.heap.size Wb W) (hc : Fresh W Wb.heap.size vc ks) (hl : Fresh Wb (gl + 1) v l0) (hn : l0 = [] → v = .slice none 0 0) (h1 : l0.length ≤ 1) (hgl : gl + 1 ≤ Wb.heap.size) (hk : ks.length ≤ 1000000) (ty : TypeId) :
    ∃ r W',(Builtin.append_ #[25,25] ty #[vc,v]).run Tryz.prog W = .ok r W' ∧ Below Wb.heap.size Wb W' ∧ Fresh W' (gl + 1) r (ks ++ l0):=by
  obtain ⟨j0,hj0,hj00,hj01,hj02⟩:=info_parts infoN
  obtain ⟨zs1,F1,o1,c1,s1⟩:=hc
  have hz:=hb.size
  match l0,h1,hn,hl with
  | [],_,hn,_ =>
    rw [hn rfl]
    refine ⟨vc,W,run_append_owned_none (P:=Tryz.prog) (w:=W) Wb.heap.size 25 ty 41 j0 5 Tryz.underlying25 hj0 vc ks.length zs1 o1,hb,?_⟩
    rw [List.append_nil]
    exact Fresh.base ⟨zs1,F1,o1,c1,s1⟩ (by omega)
  | [y],_,_,hl =>
    obtain ⟨zs2,F2,o2,c2,s2⟩:=hl
    rcases o2.2 with ⟨_,h0⟩ | ⟨gv,cv,cur,rfl,q1,q2,q3,q4,q5,q6⟩
    · cases h0
    have hcell:=fun j u (hu : zs2[j]? = some u) => o2.cells (g:=gv) rfl j u hu
    have hgv:=(o2.lt gv rfl).2
    have hl5 : zs2.length = 1 * 5:=o2.1
    have hone : ∀ u ∈ zs2,u.oneCell' = true:=by
      obtain ⟨va,vk,zs,ys,G1,G2,e1,e2,e3,e4,e5,e6⟩:=OwnC.cons_iff.1 c2
      have : ys = []:=by
        rw [e1] at hl5
        simp at hl5
        exact hl5
      subst this
      obtain ⟨aa,ca,rfl⟩:=own_slice e2
      obtain ⟨ak,ck,rfl⟩:=own_slice e3
      intro u hu
      rw [e1] at hu
      simp at hu
      rcases hu with rfl | rfl | rfl | rfl | rfl <;> rfl
    obtain ⟨g,cap,W',hrun,hown,hgrow,hat,hlt⟩:=run_append_lies (P:=Tryz.prog) (w:=W) 25 ty (gl + 1) 41 j0 _ 5 88 Tryz.underlying25 hj0 hj00 hj01 hj02 rfl (by omega) vc ks.length zs1 (own_base o1 (fun c hc => by have:=(o1.lt c hc).1; omega)) ⟨gv,0,none⟩ 1 cv zs2 hl5 (fun j u hu => by
      have:=hcell j u hu
      rw [add_plain',Nat.zero_add] at this ⊢
      exact (hb.cell (p:=⟨gv,j,none⟩) hgv).trans this) hone (by omega) (by unfold maxLen; omega) (by omega) (by omega) W.heap.size rfl
    have hs2 : Span (gl + 1) Wb.heap.size F2:=⟨(List.nodup_append.1 s2.1).2.1,fun b hb' => s2.2 b (by simp [hb'])⟩
    have hj:=Fresh.join (W:=W) (W1:=W') (B:=gl + 1) (gg:=g) (c2:=cap) (v1:=vc) (l1:=ks) (l2:=[y]) c1 (OwnC.keep _ _ _ (fun b hb' => hb.block b (hs2.2 b hb').2) c2) s1 hs2 hgl hz hgrow hat hown
    refine ⟨_,W',hrun,?_,hj⟩
    refine hb.grown hgrow hz (fun k hk' => ?_)
    exact (o1.lt k hk').1
end Go.Proofs.YteefodibpjgicaaGreat
