/- Texts joined: Ref07c. -/
import Derived.Test.YteefodibpjgicaaGreatA23
import Derived.Test.YteefodibpjgicaaGreatA25
import Derived.Test.YteefodibpjgicaaGreatA31
import Derived.Test.YteefodibpjgicaaGreatA32
namespace Go.Proofs.YteefodibpjgicaaGreat
open Go.RowKit
def ShrB (S : Nat → Prop) (s : M7.St) (w : World) (e : Ending) (w' : World) : Prop:=∃ v' vp',e = .returned (.agg #[v',vp']) ∧ RepN (fun b => S b ∨ (w.heap.size ≤ b ∧ b < w'.heap.size)) w' v' s.L ∧ Ints (fun b => S b ∨ (w.heap.size ≤ b ∧ b < w'.heap.size)) w' vp' (M7.pathN s.d s.L) ∧ Below w.heap.size w w'
theorem three7 (w : World) (t1 t2 t3 : TypeId) (c1 c2 c3 : List Value) : ∃ W,((w.alloc (.cells c1.toArray t1)).alloc (.cells c2.toArray t2)).alloc (.cells c3.toArray t3) = W ∧ Box W w.heap.size t1 c1 ∧ Box W (w.heap.size + 1) t2 c2 ∧ Box W (w.heap.size + 1 + 1) t3 c3 ∧ Below w.heap.size w W ∧ W.heap.size = w.heap.size + 3:=by
  have h1 : (w.alloc (.cells c1.toArray t1)).heap.size = w.heap.size + 1:=by simp
  have h2 : ((w.alloc (.cells c1.toArray t1)).alloc (.cells c2.toArray t2)).heap.size = w.heap.size + 1 + 1:=by simp
  have q2:=Box.new (w.alloc (.cells c1.toArray t1)) t2 c2
  have q3:=Box.new ((w.alloc (.cells c1.toArray t1)).alloc (.cells c2.toArray t2)) t3 c3
  rw [h1] at q2
  rw [h2] at q3
  refine ⟨_,rfl,((Box.new w t1 c1).alloc _).alloc _,q2.alloc _,q3,(((Below.refl _ w).alloc (Nat.le_refl _) _).alloc (by omega) _).alloc (by omega) _,by simp⟩
theorem Ints.take {S : Nat → Prop} {w : World} {a : Option Addr} {n cap : Nat} {l : List Nat} (h : Ints S w (.slice a n cap) l) (i : Nat) (hi : i ≤ l.length) : Ints S w (.slice a i cap) (l.take i):=by
  obtain ⟨h0,a',cap',h1,h2,h3,h4,h5⟩:=h
  cases h1
  refine ⟨by simp,a,cap,by rw [List.length_take,Nat.min_eq_left hi],by rw [List.length_take]; omega,h3,h4,fun hp => ?_⟩
  rw [List.length_take] at hp
  obtain ⟨b,off,e,hb,hx⟩:=h5 (by omega)
  refine ⟨b,off,e,hb,fun j y hj => hx j y ?_⟩
  rw [List.map_take,List.getElem?_take] at hj
  split at hj
  · exact hj
  · cases hj
theorem level_le (d : Nat) : ∀ (L : List Nd),(M7.levelN d L).length ≤ M3.weight L:=by
  induction d with
  | zero => intro L; exact M3.length_le_weight L
  | succ d ih =>
    intro L
    rcases List.eq_nil_or_concat L with rfl | ⟨A,x,rfl⟩
    · exact Nat.zero_le _
    · rw [List.concat_eq_append,M7.levelN_snoc,M3.weight_append,M3.weight_cons]
      have:=ih x.kids
      omega
def StK (S : Nat → Prop) (w0 : World) (g : Nat) (l : List Nd) (pv : Value) (f : Nat → Bool) (t : Nat → Value) (W : World) : Prop :=
  (f 11 = false → Below w0.heap.size w0 W ∧ (f 7 = true → RepN (fun b => S b ∨ (w0.heap.size ≤ b ∧ b < W.heap.size)) W (t 7) l)) ∧
  (f 10 = true → f 7 = true ∧ t 10 = .agg #[t 7,pv]) ∧
  (f 11 = true → (∀ j,j < 11 → f j = true) ∧ ∃ W0,Below w0.heap.size w0 W0 ∧ RepN (fun b => S b ∨ (w0.heap.size ≤ b ∧ b < W0.heap.size)) W0 (t 7) l ∧ W = (W0.setCell ⟨g,0,none⟩ (t 7)).setCell ⟨g,1,none⟩ pv)
section
variable {S : Nat → Prop} {w0 W : World} {g : Nat} {l : List Nd} {pv : Value} {f : Nat → Bool} {t : Nat → Value}
theorem StK.start (S : Nat → Prop) (w0 : World) (g : Nat) (l : List Nd) (pv : Value) (t : Nat → Value) : StK S w0 g l pv (fun j => decide (12 ≤ j)) t w0.drew :=
  ⟨fun _ => ⟨(Below.refl _ w0).drew,fun h => by simp at h⟩,fun h => by simp at h,fun h => by simp at h⟩
theorem StK.notlast (h : StK S w0 g l pv f t W) {j : Nat} (hj : j < 12) (hf : f j = false) : f 11 = false:=by
  cases h10 : f 11
  · rfl
  · rcases (by omega : j < 11 ∨ j = 11) with hl | rfl
    · have:=(h.2.2 h10).1 j hl
      rw [hf] at this
      cases this
    · rw [h10] at hf
      cases hf
theorem StK.same (h : StK S w0 g l pv f t W) (j : Nat) (v : Value) (h1 : j ≠ 7) (h2 : j ≠ 10) (h3 : j ≠ 11) : StK S w0 g l pv (updF f j) (updT t j v) W:=by
  refine ⟨fun e => ?_,fun e => ?_,fun e => ?_⟩
  · rw [updF_ne f (Ne.symm h3)] at e
    rw [updF_ne f (Ne.symm h1),updT_ne _ _ (Ne.symm h1)]
    exact h.1 e
  · rw [updF_ne f (Ne.symm h2)] at e
    rw [updF_ne f (Ne.symm h1),updT_ne _ _ (Ne.symm h1),updT_ne _ _ (Ne.symm h2)]
    exact h.2.1 e
  · rw [updF_ne f (Ne.symm h3)] at e
    obtain ⟨e1,e2⟩:=h.2.2 e
    rw [updT_ne _ _ (Ne.symm h1)]
    exact ⟨fun k hk => by unfold updF; split; rfl; exact e1 k hk,e2⟩
theorem StK.call (h : StK S w0 g l pv f t W) (hn : f 11 = false) (h7 : f 7 = false) {W' : World} {v : Value} (hv : RepN (fun b => S b ∨ (W.heap.size ≤ b ∧ b < W'.heap.size)) W' v l) (hb : Below W.heap.size W W') : StK S w0 g l pv (updF f 7) (updT t 7 v) W':=by
  obtain ⟨q1,_⟩:=h.1 hn
  have hz:=q1.size
  refine ⟨fun _ => ⟨bt q1 hb,fun _ => ?_⟩,fun e => ?_,fun e => ?_⟩
  · rw [updT_same]
    refine hv.mono (fun b hb' => ?_)
    rcases hb' with hb' | hb'
    · exact Or.inl hb'
    · exact Or.inr ⟨by omega,hb'.2⟩
  · rw [updF_ne f (by decide)] at e
    rw [(h.2.1 e).1] at h7
    cases h7
  · rw [updF_ne f (by decide),hn] at e
    cases e
theorem StK.made (h : StK S w0 g l pv f t W) (h7 : f 7 = true) : StK S w0 g l pv (updF f 10) (updT t 10 (.agg #[t 7,pv])) W:=by
  refine ⟨fun e => ?_,fun _ => ?_,fun e => ?_⟩
  · rw [updF_ne f (by decide)] at e
    rw [updF_ne f (by decide),updT_ne _ _ (by decide)]
    exact h.1 e
  · rw [updF_ne f (by decide),updT_same,updT_ne _ _ (by decide)]
    exact ⟨h7,rfl⟩
  · rw [updF_ne f (by decide)] at e
    obtain ⟨e1,e2⟩:=h.2.2 e
    rw [updT_ne _ _ (by decide)]
    exact ⟨fun k hk => by unfold updF; split; rfl; exact e1 k hk,e2⟩
theorem StK.put (h : StK S w0 g l pv f t W) (hn : f 11 = false) (hall : ∀ j,j < 11 → f j = true) (v : Value) : StK S w0 g l pv (updF f 11) (updT t 11 v) ((W.setCell ⟨g,0,none⟩ (t 7)).setCell ⟨g,1,none⟩ pv):=by
  obtain ⟨q1,q2⟩:=h.1 hn
  refine ⟨fun e => by simp at e,fun e => ?_,fun _ => ⟨fun k hk => by unfold updF; split; rfl; exact hall k hk,W,q1,?_,?_⟩⟩
  · rw [updF_ne f (by decide)] at e
    rw [updF_ne f (by decide),updT_ne _ _ (by decide),updT_ne _ _ (by decide)]
    exact h.2.1 e
  · rw [updT_ne _ _ (by decide)]; exact q2 (hall 7 (by decide))
  · rw [updT_ne _ _ (by decide)]
end
set_option maxHeartbeats 8000000 in
set_option maxRecDepth 100000 in
theorem ref07Put (S : Nat → Prop) (v vp va : Value) (s : M7.St) (t : Tok) (w : World) (hok : s.ok) (hd : s.d ≤ 1000000) (hw : M3.weight s.L ≤ 1000000) (ht : dtN s.L + t.text.size ≤ 1073741824) (hS : ∀ b,S b → b < w.heap.size) (hr : RepN S w v s.L) (hp : Ints S w vp (M7.pathN s.d s.L)) (ha : Row S w 2 va t.attrs.length (cellsA t.attrs)) :
    Calls Tryz.prog 65 #[.agg #[v,vp],.agg #[.int .i64 t.kind,.string t.name,va,.string t.text]] w (ShrB S (M7.step s t) w):=by
  obtain ⟨L,d⟩:=s
  obtain ⟨kt,nt,att,tt⟩:=t
  obtain ⟨s',hs'⟩ : ∃ s',Hid (M7.step ⟨L,d⟩ ⟨kt,nt,att,tt⟩ = s'):=⟨_,rfl⟩
  rw [hs'.out]
  have hok : M7.okD d L:=hok
  simp only at hd hw ht hr hp ha ⊢
  obtain ⟨a,cap,rfl⟩:=hr.slice
  obtain ⟨ap,cp,hvp⟩:=Row.slice hp
  have hpl:=M7.pathN_len hok
  rw [hpl] at hvp
  subst hvp
  obtain ⟨at_,ct,hva⟩:=Row.slice ha
  subst hva
  obtain ⟨-,hlp,hcp⟩:=Row.len hp
  obtain ⟨wo,rfl⟩ : ∃ wo : World,wo = w:=⟨_,rfl⟩
  replace hok:=Lib.hid hok
  go_enter Tryz.func65,Tryz.ntmps65
  go_upto_region 1 with (fail)
  obtain ⟨W3,hW3,bxB,bxT,bxR,hb3,hz3⟩:=three7 wo 84 87 84 [.slice a L.length cap,.slice ap d cp] [.int .i64 kt,.string nt,.slice at_ att.length ct,.string tt] [.slice none 0 0,.slice none 0 0]
  have hW3' : ((wo.alloc (.cells #[.slice a L.length cap,.slice ap d cp] 84)).alloc (.cells #[.int .i64 kt,.string nt,.slice at_ att.length ct,.string tt] 87)).alloc (.cells #[.slice none 0 0,.slice none 0 0] 84) = W3:=hW3
  rw [hW3']
  clear hW3 hW3'
  have hSW : ∀ b,S b → b < W3.heap.size:=fun b hb => Nat.lt_of_lt_of_le (hS b hb) hb3.size
  have hOp:=Lib.hid (ref07Open S (.slice a L.length cap) (.slice ap d cp) L d W3 hSW (hr.below hS hb3) hok.out hd (hp.below hS hb3))
  have hol:=M7.openN_len hok.out
  generalize hO : M7.openN d L = O at *
  replace hO:=Lib.hid hO
  have p0:=bxB.cell (i:=0) rfl
  have p1:=bxB.cell (i:=1) rfl
  replace hr:=Lib.hid hr
  replace hp:=Lib.hid hp
  replace ha:=Lib.hid ha
  replace hSW:=Lib.hid hSW
  go_upto_region 2 with (go_at_call 81; refine hOp.out.mono ?_; rintro e w4 ⟨vo,rfl,hto,hb4⟩)
  obtain ⟨ao,co,hvo⟩:=Row.slice hto
  rw [hol] at hvo
  subst hvo
  obtain ⟨-,hlo,hco⟩:=Row.len hto
  have hbo:=bt hb3 hb4
  have hz4:=hb4.size
  replace bxB:=bxB.below hb4 bxB.lt
  replace bxT:=bxT.below hb4 bxT.lt
  replace bxR:=bxR.below hb4 bxR.lt
  replace hto:=Lib.hid hto
  clear hOp p0 p1 hb4
  have hlt4 : wo.heap.size + 1 + 1 < w4.heap.size:=bxR.lt
  have p0:=bxB.cell (i:=0) rfl
  have p1:=bxB.cell (i:=1) rfl
  have k0:=bxT.cell (i:=0) rfl
  have k1:=bxT.cell (i:=1) rfl
  have k2:=bxT.cell (i:=2) rfl
  have k3:=bxT.cell (i:=3) rfl
  have r0:=bxR.cell (i:=0) rfl
  have r1:=bxR.cell (i:=1) rfl
  have f0:=bxR.free 0
  have f1:=bxR.free 1
  by_cases hk3 : kt = 3
  · subst hk3
    have hs1 : Hid (s' = ⟨M7.putN d (.mk 2 ⟨#[]⟩ [] tt []) L,d⟩):=hs'.out.symm
    go_upto_region 23 with (fail)
    obtain ⟨l8,hl8⟩ : ∃ l8,Hid (M7.putN d (.mk 2 ⟨#[]⟩ [] tt []) L = l8):=⟨_,rfl⟩
    rw [hl8.out] at hs1
    have hcall : ∀ W,Below w4.heap.size w4 W → Calls Tryz.prog 83 #[.slice a L.length cap,.slice ap d cp,.agg #[.int .i64 2,.string ⟨#[]⟩,.slice none 0 0,.string tt,.slice none 0 0]] W (ShrP S l8 W):=fun W hW => by
      have hbW:=bt hbo hW
      have h:=ref07put d S (.slice a L.length cap) (.slice ap d cp) L (.mk 2 ⟨#[]⟩ [] tt []) (.slice none 0 0) (.slice none 0 0) W hok.out hd hw ht (fun b hb => Nat.lt_of_lt_of_le (hS b hb) hbW.size) (hr.out.below hS hbW) (hp.out.below hS hbW) ⟨Row.nil _ _ _,RepN.nil _ _⟩
      rw [hl8.out] at h
      exact h
    replace hcall:=Lib.hid hcall
    replace bxB:=Lib.hid bxB
    replace bxT:=Lib.hid bxT
    replace bxR:=Lib.hid bxR
    refine wp_region_known (n:=12) ([some (.pointer (some ⟨wo.heap.size,0,none⟩)),some (.slice a L.length cap),some (.pointer (some ⟨wo.heap.size,1,none⟩)),some (.slice ap d cp),some (.pointer (some ⟨wo.heap.size + 1,3,none⟩)),some (.string tt),some (.agg #[.int .i64 2,.string ⟨#[]⟩,.slice none 0 0,.string tt,.slice none 0 0]),none,some (.pointer (some ⟨wo.heap.size,1,none⟩)),some (.slice ap d cp),none,none] : List (Option Value)) (fun t => ⟨#[Value.agg #[Value.slice a L.length cap,Value.slice ap d cp],Value.agg #[Value.int IntKind.i64 3,Value.string nt,Value.slice at_ att.length ct,Value.string tt],Value.pointer (some ⟨wo.heap.size,0,none⟩),Value.pointer (some ⟨wo.heap.size + 1,0,none⟩),Value.pointer (some ⟨wo.heap.size + 1 + 1,0,none⟩),Value.slice ao d co,Value.int IntKind.i64 (d : Int),undef,undef,undef,undef,undef,undef,Value.agg #[Value.slice a L.length cap,Value.slice ap d cp],Value.slice ao d co,Value.slice ao d co,Value.int IntKind.i64 (d : Int),Value.pointer (some ⟨wo.heap.size + 1,0,none⟩),Value.int IntKind.i64 3,Value.bool false,Value.bool false,undef,undef,undef,undef,undef,undef,undef,undef,undef,undef,undef,undef,undef,undef,undef,undef,undef,undef,undef,undef,undef,undef,undef,undef,undef,undef,undef,undef,undef,undef,undef,undef,undef,undef,undef,undef,undef,undef,undef,undef,undef,undef,undef,undef,undef,undef,Value.bool false,Value.bool false,undef,undef,undef,undef,undef,undef,undef,undef,undef,undef,undef,undef,undef,undef,undef,undef,undef,undef,undef,undef,Value.bool true,Value.bool true,t 0,t 1,t 2,t 3,t 4,t 5,t 6,t 7,t 8,t 9,t 10,undef,undef,undef,undef,undef,undef,undef,undef,undef,undef,undef,undef,undef,undef],[]⟩) (fun f t W => StK S w4 (wo.heap.size + 1 + 1) l8 (.slice ap d cp) f t W) (fun j => match j with | 0 => undef | 1 => undef | 2 => undef | 3 => undef | 4 => undef | 5 => undef | 6 => undef | 7 => undef | 8 => undef | 9 => undef | 10 => undef | _ => undef) (by kernel_rfl) (by rfl) (by rfl) (by kernel_rfl) rfl ?i0 ?step ?fin
    case i0 =>
      exact StK.start _ _ _ _ _ _
    case step =>
      intro j0 hj0 f t W hfi hwt hk2 hI
      have h11:=hI.notlast hj0 hfi
      obtain ⟨hlow,-⟩:=hI.1 h11
      have s0:=cell_of_below hlow p0 (by omega)
      have s1:=cell_of_below hlow p1 (by omega)
      have s3:=cell_of_below hlow k3 (by omega)
      obtain rfl | rfl | rfl | rfl | rfl | rfl | rfl | rfl | rfl | rfl | rfl | rfl : j0 = 0 ∨ j0 = 1 ∨ j0 = 2 ∨ j0 = 3 ∨ j0 = 4 ∨ j0 = 5 ∨ j0 = 6 ∨ j0 = 7 ∨ j0 = 8 ∨ j0 = 9 ∨ j0 = 10 ∨ j0 = 11:=by omega
      · -- operation 0
        clear hlow h11
        replace hI:=Lib.hid hI
        replace hk2:=Lib.hid hk2
        clear hwt
        refine wpOp_step rfl (fun K hK => ?_)
        go_simp
        exact hK _ _ ⟨_,by simp [updT],hk2.out.at_ rfl,hI.out.same _ _ (by decide) (by decide) (by decide)⟩
      · -- operation 1
        have e0 : t 0 = .pointer (some ⟨wo.heap.size,0,none⟩):=hk2 0 _ (hwt 0 (by kernel_rfl)) rfl
        clear hlow h11
        replace hI:=Lib.hid hI
        replace hk2:=Lib.hid hk2
        clear hwt
        refine wpOp_step rfl (fun K hK => ?_)
        go_simp
        exact hK _ _ ⟨_,by simp [updT,e0],hk2.out.at_ rfl,hI.out.same _ _ (by decide) (by decide) (by decide)⟩
      · -- operation 2
        clear hlow h11
        replace hI:=Lib.hid hI
        replace hk2:=Lib.hid hk2
        clear hwt
        refine wpOp_step rfl (fun K hK => ?_)
        go_simp
        exact hK _ _ ⟨_,by simp [updT],hk2.out.at_ rfl,hI.out.same _ _ (by decide) (by decide) (by decide)⟩
      · -- operation 3
        have e2 : t 2 = .pointer (some ⟨wo.heap.size,1,none⟩):=hk2 2 _ (hwt 2 (by kernel_rfl)) rfl
        clear hlow h11
        replace hI:=Lib.hid hI
        replace hk2:=Lib.hid hk2
        clear hwt
        refine wpOp_step rfl (fun K hK => ?_)
        go_simp
        exact hK _ _ ⟨_,by simp [updT,e2],hk2.out.at_ rfl,hI.out.same _ _ (by decide) (by decide) (by decide)⟩
      · -- operation 4
        clear hlow h11
        replace hI:=Lib.hid hI
        replace hk2:=Lib.hid hk2
        clear hwt
        refine wpOp_step rfl (fun K hK => ?_)
        go_simp
        exact hK _ _ ⟨_,by simp [updT],hk2.out.at_ rfl,hI.out.same _ _ (by decide) (by decide) (by decide)⟩
      · -- operation 5
        have e4 : t 4 = .pointer (some ⟨wo.heap.size + 1,3,none⟩):=hk2 4 _ (hwt 4 (by kernel_rfl)) rfl
        clear hlow h11
        replace hI:=Lib.hid hI
        replace hk2:=Lib.hid hk2
        clear hwt
        refine wpOp_step rfl (fun K hK => ?_)
        go_simp
        exact hK _ _ ⟨_,by simp [updT,e4],hk2.out.at_ rfl,hI.out.same _ _ (by decide) (by decide) (by decide)⟩
      · -- operation 6
        have e5 : t 5 = .string tt:=hk2 5 _ (hwt 5 (by kernel_rfl)) rfl
        clear hlow h11
        replace hI:=Lib.hid hI
        replace hk2:=Lib.hid hk2
        clear hwt
        refine wpOp_step rfl (fun K hK => ?_)
        go_simp
        exact hK _ _ ⟨_,by simp [updT,e5],hk2.out.at_ rfl,hI.out.same _ _ (by decide) (by decide) (by decide)⟩
      · -- operation 7
        have e1 : t 1 = .slice a L.length cap:=hk2 1 _ (hwt 1 (by kernel_rfl)) rfl
        have e3 : t 3 = .slice ap d cp:=hk2 3 _ (hwt 3 (by kernel_rfl)) rfl
        have e6 : t 6 = .agg #[.int .i64 2,.string ⟨#[]⟩,.slice none 0 0,.string tt,.slice none 0 0]:=hk2 6 _ (hwt 6 (by kernel_rfl)) rfl
        have hC:=Lib.hid (hcall.out W hlow)
        replace h11:=Lib.hid h11
        replace hfi:=Lib.hid hfi
        clear hlow
        replace hk2:=Lib.hid hk2
        replace hI:=Lib.hid hI
        clear hwt
        refine wpOp_step rfl (fun K hK => ?_)
        go_simp
        refine hC.out.mono ?_
        rintro e w5 ⟨v5,rfl,hr5,hb5⟩
        exact hK _ _ ⟨v5,by simp [updT,e1,e3,e6],hk2.out.free rfl,hI.out.call h11.out hfi.out hr5 hb5⟩
      · -- operation 8
        clear hlow h11
        replace hI:=Lib.hid hI
        replace hk2:=Lib.hid hk2
        clear hwt
        refine wpOp_step rfl (fun K hK => ?_)
        go_simp
        exact hK _ _ ⟨_,by simp [updT],hk2.out.at_ rfl,hI.out.same _ _ (by decide) (by decide) (by decide)⟩
      · -- operation 9
        have e8 : t 8 = .pointer (some ⟨wo.heap.size,1,none⟩):=hk2 8 _ (hwt 8 (by kernel_rfl)) rfl
        clear hlow h11
        replace hI:=Lib.hid hI
        replace hk2:=Lib.hid hk2
        clear hwt
        refine wpOp_step rfl (fun K hK => ?_)
        go_simp
        exact hK _ _ ⟨_,by simp [updT,e8],hk2.out.at_ rfl,hI.out.same _ _ (by decide) (by decide) (by decide)⟩
      · -- operation 10
        have e9 : t 9 = .slice ap d cp:=hk2 9 _ (hwt 9 (by kernel_rfl)) rfl
        obtain ⟨a8,c8,e7⟩:=((hI.1 h11).2 (hwt 7 (by kernel_rfl))).slice
        have hm:=hI.made (hwt 7 (by kernel_rfl))
        rw [e7] at hm
        replace hm:=Lib.hid hm
        clear hlow h11
        replace hk2:=Lib.hid hk2
        replace hI:=Lib.hid hI
        clear hwt
        refine wpOp_step rfl (fun K hK => ?_)
        go_simp
        exact hK _ _ ⟨.agg #[.slice a8 l8.length c8,.slice ap d cp],by simp [updT,e7,e9],hk2.out.free rfl,hm.out⟩
      · -- operation 11
        have hall : ∀ j,j < 11 → f j = true:=fun j hj => by
          rcases (by omega : j = 0 ∨ j = 1 ∨ j = 2 ∨ j = 3 ∨ j = 4 ∨ j = 5 ∨ j = 6 ∨ j = 7 ∨ j = 8 ∨ j = 9 ∨ j = 10) with rfl | rfl | rfl | rfl | rfl | rfl | rfl | rfl | rfl | rfl | rfl <;> exact hwt _ (by kernel_rfl)
        obtain ⟨a8,c8,e8⟩:=((hI.1 h11).2 (hall 7 (by decide))).slice
        have e10:=(hI.2.1 (hall 10 (by decide))).2
        have hput:=hI.put h11 hall undef
        rw [e8] at hput e10
        have bx:=bxR.out.below hlow bxR.out.lt
        have g0:=bx.cell (i:=0) rfl
        have g1:=bx.cell (i:=1) rfl
        have x0:=bx.free 0
        have x1:=bx.free 1
        replace hput:=Lib.hid hput
        replace bx:=Lib.hid bx
        clear hall hlow h11
        replace hk2:=Lib.hid hk2
        replace hI:=Lib.hid hI
        clear hwt
        refine wpOp_step rfl (fun K hK => ?_)
        go_simp
        exact hK _ _ ⟨undef,by simp [updT,e8,e10,],hk2.out.free rfl,hput.out⟩
    case fin =>
      intro f t W hall hk2 hI
      have e10:=(hI.2.1 (hall 10 (by omega))).2
      obtain ⟨_,W0,hb0,hr8,rfl⟩:=hI.2.2 (hall 11 (by omega))
      clear hk2 hall hI
      obtain ⟨a8,c8,e8⟩:=hr8.slice
      rw [e8] at hr8 e10 ⊢
      rw [e10]
      clear e10 e8
      have bx2:=(bxR.out.below hb0 bxR.out.lt).two (.slice a8 l8.length c8) (.slice ap d cp)
      have q0:=bx2.cell (i:=0) rfl
      have q1:=bx2.cell (i:=1) rfl
      have hbf:=Lib.hid (two_below (bt hbo hb0) (g:=wo.heap.size + 1 + 1) (.slice a8 l8.length c8) (.slice ap d cp) (by omega))
      have hsz : ((W0.setCell ⟨wo.heap.size + 1 + 1,0,none⟩ (.slice a8 l8.length c8)).setCell ⟨wo.heap.size + 1 + 1,1,none⟩ (.slice ap d cp)).heap.size = W0.heap.size:=by simp [World.setCell]
      have hfar : ∀ c,c ≠ wo.heap.size + 1 + 1 → ((W0.setCell ⟨wo.heap.size + 1 + 1,0,none⟩ (.slice a8 l8.length c8)).setCell ⟨wo.heap.size + 1 + 1,1,none⟩ (.slice ap d cp)).heap[c]? = W0.heap[c]?:=fun c hc => by
        rw [Below.heap_setCell _ _ _ _ (by simpa using hc),Below.heap_setCell _ _ _ _ (by simpa using hc)]
      have hz8:=hb0.size
      have hk8 : Hid (RepN (fun b => S b ∨ (wo.heap.size ≤ b ∧ b < ((W0.setCell ⟨wo.heap.size + 1 + 1,0,none⟩ (.slice a8 l8.length c8)).setCell ⟨wo.heap.size + 1 + 1,1,none⟩ (.slice ap d cp)).heap.size)) ((W0.setCell ⟨wo.heap.size + 1 + 1,0,none⟩ (.slice a8 l8.length c8)).setCell ⟨wo.heap.size + 1 + 1,1,none⟩ (.slice ap d cp)) (.slice a8 l8.length c8) l8):=by
        refine (hr8.keep (fun c hc => hfar c ?_)).mono (fun c hc => ?_)
        · rcases hc with hc | hc
          · have:=hS c hc
            omega
          · omega
        · rcases hc with hc | hc
          · exact Or.inl hc
          · exact Or.inr ⟨by omega,by rw [hsz]; exact hc.2⟩
      clear bx2 hr8 hsz hfar hb0
      try dsimp only
      go_wp2_with fail
      refine bodyPost_ret (v:=.agg #[.slice a8 l8.length c8,.slice ap d cp]) (by simp [results,Tryz.results65,go_sem,q0,q1]) rfl ?_
      rw [hs1.out]
      refine ⟨_,_,rfl,hk8.out,?_,hbf.out⟩
      have hpp : M7.pathN d l8 = M7.pathN d L:=by rw [← hl8.out]; exact M7.put_path _ hok.out
      show Ints _ _ _ (M7.pathN d l8)
      rw [hpp]
      exact Row.mono (hp.out.below hS hbf.out) (fun b hb => Or.inl hb)
  by_cases hk4 : kt = 4
  · subst hk4
    have hs1 : Hid (s' = ⟨M7.putN d (.mk 3 ⟨#[]⟩ [] tt []) L,d⟩):=hs'.out.symm
    go_upto_region 25 with (fail)
    obtain ⟨l8,hl8⟩ : ∃ l8,Hid (M7.putN d (.mk 3 ⟨#[]⟩ [] tt []) L = l8):=⟨_,rfl⟩
    rw [hl8.out] at hs1
    have hcall : ∀ W,Below w4.heap.size w4 W → Calls Tryz.prog 83 #[.slice a L.length cap,.slice ap d cp,.agg #[.int .i64 3,.string ⟨#[]⟩,.slice none 0 0,.string tt,.slice none 0 0]] W (ShrP S l8 W):=fun W hW => by
      have hbW:=bt hbo hW
      have h:=ref07put d S (.slice a L.length cap) (.slice ap d cp) L (.mk 3 ⟨#[]⟩ [] tt []) (.slice none 0 0) (.slice none 0 0) W hok.out hd hw ht (fun b hb => Nat.lt_of_lt_of_le (hS b hb) hbW.size) (hr.out.below hS hbW) (hp.out.below hS hbW) ⟨Row.nil _ _ _,RepN.nil _ _⟩
      rw [hl8.out] at h
      exact h
    replace hcall:=Lib.hid hcall
    replace bxB:=Lib.hid bxB
    replace bxT:=Lib.hid bxT
    replace bxR:=Lib.hid bxR
    refine wp_region_known (n:=12) ([some (.pointer (some ⟨wo.heap.size,0,none⟩)),some (.slice a L.length cap),some (.pointer (some ⟨wo.heap.size,1,none⟩)),some (.slice ap d cp),some (.pointer (some ⟨wo.heap.size + 1,3,none⟩)),some (.string tt),some (.agg #[.int .i64 3,.string ⟨#[]⟩,.slice none 0 0,.string tt,.slice none 0 0]),none,some (.pointer (some ⟨wo.heap.size,1,none⟩)),some (.slice ap d cp),none,none] : List (Option Value)) (fun t => ⟨#[Value.agg #[Value.slice a L.length cap,Value.slice ap d cp],Value.agg #[Value.int IntKind.i64 4,Value.string nt,Value.slice at_ att.length ct,Value.string tt],Value.pointer (some ⟨wo.heap.size,0,none⟩),Value.pointer (some ⟨wo.heap.size + 1,0,none⟩),Value.pointer (some ⟨wo.heap.size + 1 + 1,0,none⟩),Value.slice ao d co,Value.int IntKind.i64 (d : Int),undef,undef,undef,undef,undef,undef,Value.agg #[Value.slice a L.length cap,Value.slice ap d cp],Value.slice ao d co,Value.slice ao d co,Value.int IntKind.i64 (d : Int),Value.pointer (some ⟨wo.heap.size + 1,0,none⟩),Value.int IntKind.i64 4,Value.bool false,Value.bool false,undef,undef,undef,undef,undef,undef,undef,undef,undef,undef,undef,undef,undef,undef,undef,undef,undef,undef,undef,undef,undef,undef,undef,undef,undef,undef,undef,undef,undef,undef,undef,undef,undef,undef,undef,undef,undef,undef,undef,undef,undef,undef,undef,undef,undef,undef,Value.bool false,Value.bool false,undef,undef,undef,undef,undef,undef,undef,undef,undef,undef,undef,undef,undef,undef,undef,undef,undef,undef,undef,undef,Value.bool false,Value.bool false,undef,undef,undef,undef,undef,undef,undef,undef,undef,undef,undef,Value.bool true,Value.bool true,t 0,t 1,t 2,t 3,t 4,t 5,t 6,t 7,t 8,t 9,t 10,undef],[]⟩) (fun f t W => StK S w4 (wo.heap.size + 1 + 1) l8 (.slice ap d cp) f t W) (fun j => match j with | 0 => undef | 1 => undef | 2 => undef | 3 => undef | 4 => undef | 5 => undef | 6 => undef | 7 => undef | 8 => undef | 9 => undef | 10 => undef | _ => undef) (by kernel_rfl) (by rfl) (by rfl) (by kernel_rfl) rfl ?i0 ?step ?fin
    case i0 =>
      exact StK.start _ _ _ _ _ _
    case step =>
      intro j0 hj0 f t W hfi hwt hk2 hI
      have h11:=hI.notlast hj0 hfi
      obtain ⟨hlow,-⟩:=hI.1 h11
      have s0:=cell_of_below hlow p0 (by omega)
      have s1:=cell_of_below hlow p1 (by omega)
      have s3:=cell_of_below hlow k3 (by omega)
      obtain rfl | rfl | rfl | rfl | rfl | rfl | rfl | rfl | rfl | rfl | rfl | rfl : j0 = 0 ∨ j0 = 1 ∨ j0 = 2 ∨ j0 = 3 ∨ j0 = 4 ∨ j0 = 5 ∨ j0 = 6 ∨ j0 = 7 ∨ j0 = 8 ∨ j0 = 9 ∨ j0 = 10 ∨ j0 = 11:=by omega
      · -- operation 0
        clear hlow h11
        replace hI:=Lib.hid hI
        replace hk2:=Lib.hid hk2
        clear hwt
        refine wpOp_step rfl (fun K hK => ?_)
        go_simp
        exact hK _ _ ⟨_,by simp [updT],hk2.out.at_ rfl,hI.out.same _ _ (by decide) (by decide) (by decide)⟩
      · -- operation 1
        have e0 : t 0 = .pointer (some ⟨wo.heap.size,0,none⟩):=hk2 0 _ (hwt 0 (by kernel_rfl)) rfl
        clear hlow h11
        replace hI:=Lib.hid hI
        replace hk2:=Lib.hid hk2
        clear hwt
        refine wpOp_step rfl (fun K hK => ?_)
        go_simp
        exact hK _ _ ⟨_,by simp [updT,e0],hk2.out.at_ rfl,hI.out.same _ _ (by decide) (by decide) (by decide)⟩
      · -- operation 2
        clear hlow h11
        replace hI:=Lib.hid hI
        replace hk2:=Lib.hid hk2
        clear hwt
        refine wpOp_step rfl (fun K hK => ?_)
        go_simp
        exact hK _ _ ⟨_,by simp [updT],hk2.out.at_ rfl,hI.out.same _ _ (by decide) (by decide) (by decide)⟩
      · -- operation 3
        have e2 : t 2 = .pointer (some ⟨wo.heap.size,1,none⟩):=hk2 2 _ (hwt 2 (by kernel_rfl)) rfl
        clear hlow h11
        replace hI:=Lib.hid hI
        replace hk2:=Lib.hid hk2
        clear hwt
        refine wpOp_step rfl (fun K hK => ?_)
        go_simp
        exact hK _ _ ⟨_,by simp [updT,e2],hk2.out.at_ rfl,hI.out.same _ _ (by decide) (by decide) (by decide)⟩
      · -- operation 4
        clear hlow h11
        replace hI:=Lib.hid hI
        replace hk2:=Lib.hid hk2
        clear hwt
        refine wpOp_step rfl (fun K hK => ?_)
        go_simp
        exact hK _ _ ⟨_,by simp [updT],hk2.out.at_ rfl,hI.out.same _ _ (by decide) (by decide) (by decide)⟩
      · -- operation 5
        have e4 : t 4 = .pointer (some ⟨wo.heap.size + 1,3,none⟩):=hk2 4 _ (hwt 4 (by kernel_rfl)) rfl
        clear hlow h11
        replace hI:=Lib.hid hI
        replace hk2:=Lib.hid hk2
        clear hwt
        refine wpOp_step rfl (fun K hK => ?_)
        go_simp
        exact hK _ _ ⟨_,by simp [updT,e4],hk2.out.at_ rfl,hI.out.same _ _ (by decide) (by decide) (by decide)⟩
      · -- operation 6
        have e5 : t 5 = .string tt:=hk2 5 _ (hwt 5 (by kernel_rfl)) rfl
        clear hlow h11
        replace hI:=Lib.hid hI
        replace hk2:=Lib.hid hk2
        clear hwt
        refine wpOp_step rfl (fun K hK => ?_)
        go_simp
        exact hK _ _ ⟨_,by simp [updT,e5],hk2.out.at_ rfl,hI.out.same _ _ (by decide) (by decide) (by decide)⟩
      · -- operation 7
        have e1 : t 1 = .slice a L.length cap:=hk2 1 _ (hwt 1 (by kernel_rfl)) rfl
        have e3 : t 3 = .slice ap d cp:=hk2 3 _ (hwt 3 (by kernel_rfl)) rfl
        have e6 : t 6 = .agg #[.int .i64 3,.string ⟨#[]⟩,.slice none 0 0,.string tt,.slice none 0 0]:=hk2 6 _ (hwt 6 (by kernel_rfl)) rfl
        have hC:=Lib.hid (hcall.out W hlow)
        replace h11:=Lib.hid h11
        replace hfi:=Lib.hid hfi
        clear hlow
        replace hk2:=Lib.hid hk2
        replace hI:=Lib.hid hI
        clear hwt
        refine wpOp_step rfl (fun K hK => ?_)
        go_simp
        refine hC.out.mono ?_
        rintro e w5 ⟨v5,rfl,hr5,hb5⟩
        exact hK _ _ ⟨v5,by simp [updT,e1,e3,e6],hk2.out.free rfl,hI.out.call h11.out hfi.out hr5 hb5⟩
      · -- operation 8
        clear hlow h11
        replace hI:=Lib.hid hI
        replace hk2:=Lib.hid hk2
        clear hwt
        refine wpOp_step rfl (fun K hK => ?_)
        go_simp
        exact hK _ _ ⟨_,by simp [updT],hk2.out.at_ rfl,hI.out.same _ _ (by decide) (by decide) (by decide)⟩
      · -- operation 9
        have e8 : t 8 = .pointer (some ⟨wo.heap.size,1,none⟩):=hk2 8 _ (hwt 8 (by kernel_rfl)) rfl
        clear hlow h11
        replace hI:=Lib.hid hI
        replace hk2:=Lib.hid hk2
        clear hwt
        refine wpOp_step rfl (fun K hK => ?_)
        go_simp
        exact hK _ _ ⟨_,by simp [updT,e8],hk2.out.at_ rfl,hI.out.same _ _ (by decide) (by decide) (by decide)⟩
      · -- operation 10
        have e9 : t 9 = .slice ap d cp:=hk2 9 _ (hwt 9 (by kernel_rfl)) rfl
        obtain ⟨a8,c8,e7⟩:=((hI.1 h11).2 (hwt 7 (by kernel_rfl))).slice
        have hm:=hI.made (hwt 7 (by kernel_rfl))
        rw [e7] at hm
        replace hm:=Lib.hid hm
        clear hlow h11
        replace hk2:=Lib.hid hk2
        replace hI:=Lib.hid hI
        clear hwt
        refine wpOp_step rfl (fun K hK => ?_)
        go_simp
        exact hK _ _ ⟨.agg #[.slice a8 l8.length c8,.slice ap d cp],by simp [updT,e7,e9],hk2.out.free rfl,hm.out⟩
      · -- operation 11
        have hall : ∀ j,j < 11 → f j = true:=fun j hj => by
          rcases (by omega : j = 0 ∨ j = 1 ∨ j = 2 ∨ j = 3 ∨ j = 4 ∨ j = 5 ∨ j = 6 ∨ j = 7 ∨ j = 8 ∨ j = 9 ∨ j = 10) with rfl | rfl | rfl | rfl | rfl | rfl | rfl | rfl | rfl | rfl | rfl <;> exact hwt _ (by kernel_rfl)
        obtain ⟨a8,c8,e8⟩:=((hI.1 h11).2 (hall 7 (by decide))).slice
        have e10:=(hI.2.1 (hall 10 (by decide))).2
        have hput:=hI.put h11 hall undef
        rw [e8] at hput e10
        have bx:=bxR.out.below hlow bxR.out.lt
        have g0:=bx.cell (i:=0) rfl
        have g1:=bx.cell (i:=1) rfl
        have x0:=bx.free 0
        have x1:=bx.free 1
        replace hput:=Lib.hid hput
        replace bx:=Lib.hid bx
        clear hall hlow h11
        replace hk2:=Lib.hid hk2
        replace hI:=Lib.hid hI
        clear hwt
        refine wpOp_step rfl (fun K hK => ?_)
        go_simp
        exact hK _ _ ⟨undef,by simp [updT,e8,e10,],hk2.out.free rfl,hput.out⟩
    case fin =>
      intro f t W hall hk2 hI
      have e10:=(hI.2.1 (hall 10 (by omega))).2
      obtain ⟨_,W0,hb0,hr8,rfl⟩:=hI.2.2 (hall 11 (by omega))
      clear hk2 hall hI
      obtain ⟨a8,c8,e8⟩:=hr8.slice
      rw [e8] at hr8 e10 ⊢
      rw [e10]
      clear e10 e8
      have bx2:=(bxR.out.below hb0 bxR.out.lt).two (.slice a8 l8.length c8) (.slice ap d cp)
      have q0:=bx2.cell (i:=0) rfl
      have q1:=bx2.cell (i:=1) rfl
      have hbf:=Lib.hid (two_below (bt hbo hb0) (g:=wo.heap.size + 1 + 1) (.slice a8 l8.length c8) (.slice ap d cp) (by omega))
      have hsz : ((W0.setCell ⟨wo.heap.size + 1 + 1,0,none⟩ (.slice a8 l8.length c8)).setCell ⟨wo.heap.size + 1 + 1,1,none⟩ (.slice ap d cp)).heap.size = W0.heap.size:=by simp [World.setCell]
      have hfar : ∀ c,c ≠ wo.heap.size + 1 + 1 → ((W0.setCell ⟨wo.heap.size + 1 + 1,0,none⟩ (.slice a8 l8.length c8)).setCell ⟨wo.heap.size + 1 + 1,1,none⟩ (.slice ap d cp)).heap[c]? = W0.heap[c]?:=fun c hc => by
        rw [Below.heap_setCell _ _ _ _ (by simpa using hc),Below.heap_setCell _ _ _ _ (by simpa using hc)]
      have hz8:=hb0.size
      have hk8 : Hid (RepN (fun b => S b ∨ (wo.heap.size ≤ b ∧ b < ((W0.setCell ⟨wo.heap.size + 1 + 1,0,none⟩ (.slice a8 l8.length c8)).setCell ⟨wo.heap.size + 1 + 1,1,none⟩ (.slice ap d cp)).heap.size)) ((W0.setCell ⟨wo.heap.size + 1 + 1,0,none⟩ (.slice a8 l8.length c8)).setCell ⟨wo.heap.size + 1 + 1,1,none⟩ (.slice ap d cp)) (.slice a8 l8.length c8) l8):=by
        refine (hr8.keep (fun c hc => hfar c ?_)).mono (fun c hc => ?_)
        · rcases hc with hc | hc
          · have:=hS c hc
            omega
          · omega
        · rcases hc with hc | hc
          · exact Or.inl hc
          · exact Or.inr ⟨by omega,by rw [hsz]; exact hc.2⟩
      clear bx2 hr8 hsz hfar hb0
      try dsimp only
      go_wp2_with fail
      refine bodyPost_ret (v:=.agg #[.slice a8 l8.length c8,.slice ap d cp]) (by simp [results,Tryz.results65,go_sem,q0,q1]) rfl ?_
      rw [hs1.out]
      refine ⟨_,_,rfl,hk8.out,?_,hbf.out⟩
      have hpp : M7.pathN d l8 = M7.pathN d L:=by rw [← hl8.out]; exact M7.put_path _ hok.out
      show Ints _ _ _ (M7.pathN d l8)
      rw [hpp]
      exact Row.mono (hp.out.below hS hbf.out) (fun b hb => Or.inl hb)
  by_cases hk1 : kt = 1
  · subst hk1
    have hs1 : Hid (s' = ⟨M7.putN (M7.closeAt O nt d) (.mk 1 nt att ⟨#[]⟩ []) L,if M3.voidB nt.data.toList then M7.closeAt O nt d else M7.closeAt O nt d + 1⟩):=by
      show _ = _
      rw [← hs'.out,← hO.out]; rfl
    obtain ⟨wf,hwf⟩ : ∃ W,Hid (W = w4):=⟨_,rfl⟩
    replace bxB:=Lib.hid bxB
    replace bxT:=Lib.hid bxT
    replace bxR:=Lib.hid bxR
    replace hbo:=Lib.hid hbo
    clear hs' hwf hk3
    have k1':=k1
    go_upto_block 1 with (fail)
    obtain ⟨cn,hcn⟩ : ∃ cn,Hid (M7.closeAt O nt d = cn):=⟨_,rfl⟩
    rw [hcn.out] at hs1
    go_cut [6] (fun s6 wx => s6 = .int .i64 (cn : Int) ∧ Below w4.heap.size w4 wx)
    case first =>
      go_wp2_with fail
      clear p0 p1 k0 k1 k2 k3 r0 r1 f0 f1
      go_loopw [6] (fun u6 wr => ∃ k : Nat,k ≤ d ∧ u6 = .int .i64 (k : Int) ∧ cn = M7.closeAt O nt k ∧ Below w4.heap.size w4 wr) (fun u6 _ => (intOf u6).toNat)
      case atStart => exact ⟨d,Nat.le_refl _,rfl,hcn.out.symm,Below.refl _ _⟩
      case round =>
        obtain ⟨k,hk,rfl,hke,hb⟩:=hrel
        have hz:=hb.size
        obtain ⟨wr',rfl⟩ : ∃ W : World,W = wr:=⟨_,rfl⟩
        cases k with
        | zero =>
          have hn0 : cn = 0:=hke
          subst hn0
          clear hke hcn hs1 hz
          go_upto_region 5 with (fail)
          go_quiet (fail)
          have hbq:=below_drewN hb nq
          go_wp2_with fail
          go_meet
          case rel => exact ⟨rfl,hbq⟩
        | succ i =>
          have hio : i < O.length:=by omega
          obtain ⟨bo,oo,eo,hob,c0⟩:=Row.atS hto.out i hio
          subst eo
          have hI0 : (0 : Int) ≤ (i : Int):=by omega
          have hI1 : (i : Int) < (d : Int):=by omega
          have hgt : (0 : Int) < (i : Int) + 1:=by omega
          have hwi : IntKind.i64.wrap (i : Int) = (i : Int):=IntWalk.i64_in _ ⟨by omega,by omega⟩
          have hoi : O.getD i ⟨#[]⟩ = O[i]:=by simp [List.getD,hio]
          rw [M7.closeAt,hoi] at hke
          generalize O[i] = oi at *
          have hCl:=Lib.hid (fun W => ref06Closes oi nt W)
          generalize M6.closesB oi.data.toList nt.data.toList = cb at *
          replace hke:=Lib.hid hke
          clear hoi
          go_upto_region 5 with (fail)
          refine wp_region_known (n:=12) ([some (.int .i64 ((i + 1 : Nat) : Int)),some (.bool true),some (.bool true),some (Value.slice (some ⟨bo,oo,none⟩) d co),some (.int .i64 ((i + 1 : Nat) : Int)),some (.int .i64 (i : Int)),some (.pointer (some ⟨bo,oo + i,none⟩)),some (.string oi),some (.pointer (some ⟨wo.heap.size + 1,1,none⟩)),some (.string nt),some (.bool cb),some (.bool cb)] : List (Option Value)) (fun t => ⟨#[Value.agg #[Value.slice a L.length cap,Value.slice ap d cp],Value.agg #[Value.int IntKind.i64 1,Value.string nt,Value.slice at_ att.length ct,Value.string tt],Value.pointer (some ⟨wo.heap.size,0,none⟩),Value.pointer (some ⟨wo.heap.size + 1,0,none⟩),Value.pointer (some ⟨wo.heap.size + 1 + 1,0,none⟩),Value.slice (some ⟨bo,oo,none⟩) d co,.int .i64 ((i + 1 : Nat) : Int),undef,undef,undef,undef,undef,undef,Value.agg #[Value.slice a L.length cap,Value.slice ap d cp],Value.slice (some ⟨bo,oo,none⟩) d co,Value.slice (some ⟨bo,oo,none⟩) d co,Value.int IntKind.i64 (d : Int),Value.pointer (some ⟨wo.heap.size + 1,0,none⟩),Value.int IntKind.i64 1,Value.bool true,Value.bool true,t 0,t 1,t 2,t 3,t 4,t 5,t 6,t 7,t 8,t 9,t 10,t 11,u33,u34,undef,undef,undef,undef,undef,undef,undef,undef,undef,undef,undef,undef,undef,undef,undef,undef,undef,undef,undef,undef,undef,undef,undef,undef,undef,undef,undef,undef,undef,undef,undef,undef,undef,undef,undef,undef,undef,undef,undef,undef,undef,undef,undef,undef,undef,undef,undef,undef,undef,undef,undef,undef,undef,undef,undef,undef,undef,undef,undef,undef,undef,undef,undef,undef,undef,undef,undef,undef,undef,undef,undef,undef,undef,undef,undef,undef,undef,undef,undef,undef,undef],[]⟩) (fun f t W => Below w4.heap.size w4 W) (fun j => match j with | 0 => u21 | 1 => u22 | 2 => u23 | 3 => u24 | 4 => u25 | 5 => u26 | 6 => u27 | 7 => u28 | 8 => u29 | 9 => u30 | 10 => u31 | 11 => u32 | _ => undef) (by kernel_rfl) (by rfl) (by rfl) (by kernel_rfl) rfl ?i0 ?step ?fin
          case i0 =>
            exact hb.drew
          case step =>
            intro j0 hj0 f t W hfi hwt hk2 hI
            have s1:=cell_of_below hI k1' (by omega)
            have s4:=cell_of_below hI c0 (by omega)
            obtain rfl | rfl | rfl | rfl | rfl | rfl | rfl | rfl | rfl | rfl | rfl | rfl : j0 = 0 ∨ j0 = 1 ∨ j0 = 2 ∨ j0 = 3 ∨ j0 = 4 ∨ j0 = 5 ∨ j0 = 6 ∨ j0 = 7 ∨ j0 = 8 ∨ j0 = 9 ∨ j0 = 10 ∨ j0 = 11:=by omega
            · -- operation 0
              replace hI:=Lib.hid hI
              replace hk2:=Lib.hid hk2
              clear hwt
              refine wpOp_step rfl (fun K hK => ?_)
              go_simp
              exact hK _ _ ⟨_,by simp [updT],hk2.out.at_ rfl,hI.out⟩
            · -- operation 1
              have e0 : t 0 = .int .i64 ((i + 1 : Nat) : Int):=hk2 0 _ (hwt 0 (by kernel_rfl)) rfl
              replace hI:=Lib.hid hI
              replace hk2:=Lib.hid hk2
              clear hwt
              refine wpOp_step rfl (fun K hK => ?_)
              go_simp
              exact hK _ _ ⟨_,by simp [updT,e0],hk2.out.at_ rfl,hI.out⟩
            · -- operation 2
              have e1 : t 1 = .bool true:=hk2 1 _ (hwt 1 (by kernel_rfl)) rfl
              replace hI:=Lib.hid hI
              replace hk2:=Lib.hid hk2
              clear hwt
              refine wpOp_step rfl (fun K hK => ?_)
              go_simp
              exact hK _ _ ⟨_,by simp [updT,e1],hk2.out.at_ rfl,hI.out⟩
            · -- operation 3
              have e2 : t 2 = .bool true:=hk2 2 _ (hwt 2 (by kernel_rfl)) rfl
              replace hI:=Lib.hid hI
              replace hk2:=Lib.hid hk2
              clear hwt
              refine wpOp_step rfl (fun K hK => ?_)
              go_simp
              exact hK _ _ ⟨_,by simp [updT,e2],hk2.out.at_ rfl,hI.out⟩
            · -- operation 4
              have e2 : t 2 = .bool true:=hk2 2 _ (hwt 2 (by kernel_rfl)) rfl
              replace hI:=Lib.hid hI
              replace hk2:=Lib.hid hk2
              clear hwt
              refine wpOp_step rfl (fun K hK => ?_)
              go_simp
              exact hK _ _ ⟨_,by simp [updT,e2],hk2.out.at_ rfl,hI.out⟩
            · -- operation 5
              have e2 : t 2 = .bool true:=hk2 2 _ (hwt 2 (by kernel_rfl)) rfl
              have e4 : t 4 = .int .i64 ((i + 1 : Nat) : Int):=hk2 4 _ (hwt 4 (by kernel_rfl)) rfl
              replace hI:=Lib.hid hI
              replace hk2:=Lib.hid hk2
              clear hwt
              refine wpOp_step rfl (fun K hK => ?_)
              go_simp
              exact hK _ _ ⟨_,by simp [updT,e2,e4],hk2.out.at_ rfl,hI.out⟩
            · -- operation 6
              have e2 : t 2 = .bool true:=hk2 2 _ (hwt 2 (by kernel_rfl)) rfl
              have e3 : t 3 = Value.slice (some ⟨bo,oo,none⟩) d co:=hk2 3 _ (hwt 3 (by kernel_rfl)) rfl
              have e5 : t 5 = .int .i64 (i : Int):=hk2 5 _ (hwt 5 (by kernel_rfl)) rfl
              replace hI:=Lib.hid hI
              replace hk2:=Lib.hid hk2
              clear hwt
              refine wpOp_step rfl (fun K hK => ?_)
              go_simp
              exact hK _ _ ⟨_,by simp [updT,e2,e3,e5],hk2.out.at_ rfl,hI.out⟩
            · -- operation 7
              have e2 : t 2 = .bool true:=hk2 2 _ (hwt 2 (by kernel_rfl)) rfl
              have e6 : t 6 = .pointer (some ⟨bo,oo + i,none⟩):=hk2 6 _ (hwt 6 (by kernel_rfl)) rfl
              replace hI:=Lib.hid hI
              replace hk2:=Lib.hid hk2
              clear hwt
              refine wpOp_step rfl (fun K hK => ?_)
              go_simp
              exact hK _ _ ⟨_,by simp [updT,e2,e6],hk2.out.at_ rfl,hI.out⟩
            · -- operation 8
              have e2 : t 2 = .bool true:=hk2 2 _ (hwt 2 (by kernel_rfl)) rfl
              replace hI:=Lib.hid hI
              replace hk2:=Lib.hid hk2
              clear hwt
              refine wpOp_step rfl (fun K hK => ?_)
              go_simp
              exact hK _ _ ⟨_,by simp [updT,e2],hk2.out.at_ rfl,hI.out⟩
            · -- operation 9
              have e2 : t 2 = .bool true:=hk2 2 _ (hwt 2 (by kernel_rfl)) rfl
              have e8 : t 8 = .pointer (some ⟨wo.heap.size + 1,1,none⟩):=hk2 8 _ (hwt 8 (by kernel_rfl)) rfl
              replace hI:=Lib.hid hI
              replace hk2:=Lib.hid hk2
              clear hwt
              refine wpOp_step rfl (fun K hK => ?_)
              go_simp
              exact hK _ _ ⟨_,by simp [updT,e2,e8],hk2.out.at_ rfl,hI.out⟩
            · -- operation 10
              have e2 : t 2 = .bool true:=hk2 2 _ (hwt 2 (by kernel_rfl)) rfl
              have e7 : t 7 = .string oi:=hk2 7 _ (hwt 7 (by kernel_rfl)) rfl
              have e9 : t 9 = .string nt:=hk2 9 _ (hwt 9 (by kernel_rfl)) rfl
              replace hk2:=Lib.hid hk2
              replace hI:=Lib.hid hI
              clear hwt
              refine wpOp_step rfl (fun K hK => ?_)
              go_simp
              refine (hCl.out _).mono ?_
              rintro e w5 ⟨rfl,hb5⟩
              exact hK _ _ ⟨_,by simp [updT,e2,e7,e9],hk2.out.at_ rfl,hI.out.trans (hb5.mono hI.out.size)⟩
            · -- operation 11
              have e2 : t 2 = .bool true:=hk2 2 _ (hwt 2 (by kernel_rfl)) rfl
              have e10 : t 10 = .bool cb:=hk2 10 _ (hwt 10 (by kernel_rfl)) rfl
              replace hI:=Lib.hid hI
              replace hk2:=Lib.hid hk2
              clear hwt
              refine wpOp_step rfl (fun K hK => ?_)
              go_simp
              exact hK _ _ ⟨_,by simp [updT,e2,e10],hk2.out.at_ rfl,hI.out⟩
          case fin =>
            intro f t W hall hk2 hI
            have e11:=hk2 11 _ (hall 11 (by omega)) rfl
            clear hk2 hall
            try dsimp only
            rw [e11]
            clear e11
            cases cb
            · go_wp2_with fail
              go_meet
              case rel => exact ⟨by rw [hke.out]; rfl,hI⟩
            · go_wp2_with fail
              go_roundw
              case rel => exact ⟨i,by omega,by go_num,by rw [hke.out]; rfl,hI⟩
              case measure => simp [intOf]
    case rest =>
      obtain ⟨e6,hb⟩:=hcut
      subst e6
      rename World => wx
      have hcd : cn ≤ d:=by rw [← hcn.out]; exact M7.closeAt_le _ _ _
      have bB:=bxB.out.below hb bxB.out.lt
      have bT:=bxT.out.below hb bxT.out.lt
      have bR:=Lib.hid (bxR.out.below hb bxR.out.lt)
      have hbX : Below wo.heap.size wo wx:=bt hbo.out hb
      have hoc:=M7.okD_pre hok.out hcd
      have hplc : (M7.pathN cn L).length = cn:=M7.pathN_len hoc
      have hpc : Ints S wx (.slice ap cn cp) (M7.pathN cn L):=by
        rw [M7.pathN_take hok.out hcd]; exact (hp.out.below hS hbX).take cn (by omega)
      have hSx : ∀ b,S b → b < wx.heap.size:=fun b h => Nat.lt_of_lt_of_le (hS b h) hbX.size
      have hrx:=hr.out.below hS hbX
      have hcnt:=Lib.hid (ref07count S (.slice a L.length cap) (.slice ap cn cp) L cn wx hSx hrx hoc hpc)
      have hput:=ref07put cn S (.slice a L.length cap) (.slice ap cn cp) L (.mk 1 nt att ⟨#[]⟩ []) (.slice at_ att.length ct) (.slice none 0 0) wx hoc (by omega) hw (by show dtN L + 0 ≤ _; omega) hSx hrx hpc ⟨ha.out.below hS hbX,RepN.nil _ _⟩
      have hpp : M7.pathN cn (M7.putN cn (.mk 1 nt att ⟨#[]⟩ []) L) = M7.pathN cn L:=M7.put_path _ hoc
      have hpo : M7.pathN (cn + 1) (M7.putN cn (.mk 1 nt att ⟨#[]⟩ []) L) = M7.pathN cn L ++ [(M7.levelN cn L).length]:=(M7.put_open _ hoc rfl).2.2
      obtain ⟨l8,hl8⟩ : ∃ l8,M7.putN cn (.mk 1 nt att ⟨#[]⟩ []) L = l8:=⟨_,rfl⟩
      rw [hl8] at hs1 hput hpp hpo
      replace hput:=Lib.hid hput
      have hq : ap = none → cp = 0:=by
        obtain ⟨_,a',c',e,h2,h3,h4,_⟩:=hp.out
        simp only [Value.slice.injEq] at e
        obtain ⟨rfl,-,rfl⟩:=e
        exact h4
      have p0:=bB.cell (i:=0) rfl
      have p1:=bB.cell (i:=1) rfl
      have k1:=bT.cell (i:=1) rfl
      have k2:=bT.cell (i:=2) rfl
      have hz4x:=hb.size
      generalize hpa : M7.pathN cn L = pa at *
      have hlvb : (M7.levelN cn L).length ≤ 1000000:=Nat.le_trans (level_le cn L) (by omega)
      generalize hlv : (M7.levelN cn L).length = lv at *
      replace hpc:=Lib.hid hpc
      replace hrx:=Lib.hid hrx
      replace bB:=Lib.hid bB
      replace bT:=Lib.hid bT
      replace hpp:=Lib.hid hpp
      replace hpo:=Lib.hid hpo
      replace hs1:=Lib.hid hs1.out
      clear hl8 hpa hlv hoc
      go_upto_region 7 with (fail)
      go_cut [7] from 35 to 38 (fun s7 wy => s7 = .slice ap cn cp ∧ wx = wy)
      case first =>
        cases ap with
        | none =>
          obtain rfl:=hq rfl
          obtain rfl : cn = 0:=by omega
          go_wp2_with fail
          go_meet
          case rel => exact ⟨rfl,rfl⟩
        | some pA =>
          have hcc : (cn : Int) ≤ (cp : Int):=by omega
          go_wp2_with fail
          go_meet
          case rel => exact ⟨rfl,rfl⟩
      case rest =>
        obtain ⟨rfl,rfl⟩:=hcut
        go_upto_region 9 with (go_at_call 82; refine hcnt.out.mono ?_; rintro e w' ⟨rfl,rfl⟩)
        go_upto_region 10 with (go_at_call 83; refine hput.out.mono ?_; rintro e w5 ⟨v5,rfl,hr5,hb5⟩)
        obtain ⟨a5,c5,rfl⟩:=hr5.slice
        have hb05 : Below wo.heap.size wo w5:=bt hbX hb5
        have hz5:=hb5.size
        have hpc5 : Ints S w5 (.slice ap cn cp) pa:=Row.keep hpc.out (fun b h => hb5.block b (hSx b h))
        have hrow5 : Row S w5 1 (.slice ap cn cp) cn (pa.map fun k : Nat => Value.int .i64 (k : Int)):=by
          have h:=hpc5
          unfold Ints at h
          rwa [hplc] at h
        have hone5 : ∀ u ∈ (pa.map fun k : Nat => Value.int .i64 (k : Int)),u.oneCell' = true:=by
          intro u hu
          obtain ⟨k,-,rfl⟩:=List.mem_map.1 hu
          rfl
        have hnil : w5.ownsRow w5.heap.size 3 1 (.slice none 0 0) 0 []:=World.ownsRow_nil _ _ _ _
        have bR5:=bR.out.below hb5 bR.out.lt
        have bT5:=bT.out.below hb5 bT.out.lt
        have hfin : Hid (∀ (wz : World) (az : Option Addr) (nz cz : Nat) (l' : List Nat),Below w5.heap.size w5 wz → wz.ownsRow w5.heap.size 3 1 (.slice az nz cz) nz (l'.map fun k : Nat => Value.int .i64 (k : Int)) → nz = l'.length → l' = M7.pathN s'.d s'.L →
            Box wz (wo.heap.size + 1 + 1) 84 [.slice none 0 0,.slice none 0 0] ∧
            (∀ W,W = (wz.setCell ⟨wo.heap.size + 1 + 1,0,none⟩ (.slice a5 l8.length c5)).setCell ⟨wo.heap.size + 1 + 1,1,none⟩ (.slice az nz cz) → Box W (wo.heap.size + 1 + 1) 84 [.slice a5 l8.length c5,.slice az nz cz] ∧ ShrB S s' wo (.returned (.agg #[.slice a5 l8.length c5,.slice az nz cz])) W)):=by
          intro wz az nz cz l' hbz hown hnz hl'
          have bRz:=bR5.below hbz (by have:=bR5.lt; omega)
          refine ⟨bRz,?_⟩
          rintro W rfl
          refine ⟨bRz.two _ _,_,_,rfl,?_,?_,two_below (bt hb05 hbz) _ _ (by omega)⟩
          · rw [hs1.out]
            have hlt5:=bR5.lt
            have hzz:=hbz.size
            have hsz : ((wz.setCell ⟨wo.heap.size + 1 + 1,0,none⟩ (.slice a5 l8.length c5)).setCell ⟨wo.heap.size + 1 + 1,1,none⟩ (.slice az nz cz)).heap.size = wz.heap.size:=by simp [World.setCell]
            refine (hr5.keep (fun c hc => ?_)).mono (fun c hc => ?_)
            · have hne : c ≠ wo.heap.size + 1 + 1 ∧ c < w5.heap.size:=by
                rcases hc with hc | hc
                · have:=hS c hc
                  exact ⟨by omega,by omega⟩
                · exact ⟨by omega,hc.2⟩
              rw [Below.heap_setCell _ _ _ _ (by simpa using hne.1),Below.heap_setCell _ _ _ _ (by simpa using hne.1),hbz.block c hne.2]
            · rcases hc with hc | hc
              · exact Or.inl hc
              · exact Or.inr ⟨by have:=hbX.size; omega,by rw [hsz]; omega⟩
          · rw [← hl']
            have hlt5:=bR5.lt
            have hzz:=hbz.size
            have hsz : ((wz.setCell ⟨wo.heap.size + 1 + 1,0,none⟩ (.slice a5 l8.length c5)).setCell ⟨wo.heap.size + 1 + 1,1,none⟩ (.slice az nz cz)).heap.size = wz.heap.size:=by simp [World.setCell]
            have h1:=Row.own (own_keep hown (w':=(wz.setCell ⟨wo.heap.size + 1 + 1,0,none⟩ (.slice a5 l8.length c5)).setCell ⟨wo.heap.size + 1 + 1,1,none⟩ (.slice az nz cz)) (fun g hg => by
              have hg1:=(hown.lt g hg).1
              have hg2 : g ≠ wo.heap.size + 1 + 1:=by omega
              rw [Below.heap_setCell _ _ _ _ (by simpa using hg2),Below.heap_setCell _ _ _ _ (by simpa using hg2)])) (S:=fun b => S b ∨ (wo.heap.size ≤ b ∧ b < ((wz.setCell ⟨wo.heap.size + 1 + 1,0,none⟩ (.slice a5 l8.length c5)).setCell ⟨wo.heap.size + 1 + 1,1,none⟩ (.slice az nz cz)).heap.size)) (fun g hg => Or.inr ⟨by have:=(hown.lt g hg).1; omega,by rw [hsz]; exact (hown.lt g hg).2⟩)
            unfold Ints
            rw [← hnz]
            exact h1
        have k1:=bT5.cell (i:=1) rfl
        clear hcnt hput hr5 p0 p1 k1' k2 hrx
        have h63 : 0 + cn ≤ 9223372036854775807:=by omega
        have hby : (0 + cn) * 8 ≤ 140737488355328:=by omega
        go_upto_region 12 with (at_builtin; refine wpList_spread w5 1 S rfl _ _ 82 3 rfl w5.heap.size Tryz.underlying82 infoInt7 rfl (by decide) _ 0 [] rfl hnil _ cn _ rfl hrow5 hone5 h63 ?_ (Nat.le_refl _) ?_; exact hby; intro u7 w6 hown6 hgrow6)
        have hb56 : Below w5.heap.size w5 w6:=below_own (Below.refl _ _) hnil hgrow6 (Nat.le_refl _) (Nat.le_refl _)
        rw [Nat.zero_add,List.nil_append] at hown6
        obtain ⟨a7,c7,rfl⟩:=own_slice hown6
        have hz6:=hb56.size
        have bT6:=bT5.below hb56 bT5.lt
        replace k1:=bT6.cell (i:=1) rfl
        clear hgrow6
        have hV : Hid (Calls Tryz.prog 62 #[.string nt] w6 fun e w' => e = .returned (.bool (M3.voidB nt.data.toList)) ∧ w6 = w'):=(ref03Void nt w6).mono fun _ _ h => ⟨h.1,h.2.symm⟩
        generalize M3.voidB nt.data.toList = vb at *
        go_upto_region 13 with (go_at_call 62; refine hV.out.mono ?_; rintro e w' ⟨rfl,rfl⟩)
        clear hV bT6 k1 bT5 hrow5 hone5 hpc5 hnil
        cases vb
        · have h63' : cn + 1 ≤ 9223372036854775807:=by omega
          have hby' : (cn + 1) * 8 ≤ 140737488355328:=by omega
          have hone1 : ∀ u ∈ ([.int .i64 (lv : Int)] : List Value),u.oneCell' = true:=by simp [Value.oneCell']
          go_upto_region 15 with (at_builtin; refine wpList_appK w6 [.int .i64 (lv : Int)] 1 rfl _ _ 82 3 rfl w5.heap.size Tryz.underlying82 infoInt7 rfl (by decide) _ cn _ rfl hown6 _ rfl rfl rfl hone1 h63' ?_ hz6 ?_; exact hby'; intro gq cq w7 hown7 hgrow7 hat7)
          have hb57 : Below w5.heap.size w5 w7:=below_own hb56 hown6 hgrow7 hz6 (Nat.le_refl _)
          obtain ⟨bRz,hW⟩:=hfin.out w7 (some ⟨gq,0,none⟩) (cn + 1) cq (pa ++ [lv]) hb57 (by rw [List.map_append]; exact hown7) (by rw [List.length_append,hplc]; rfl) (by rw [hs1.out]; exact hpo.out.symm)
          obtain ⟨bW,hres⟩:=hW _ rfl
          have r0:=bRz.cell (i:=0) rfl
          have r1:=bRz.cell (i:=1) rfl
          have f0:=bRz.free 0
          have f1:=bRz.free 1
          have q0:=bW.cell (i:=0) rfl
          have q1:=bW.cell (i:=1) rfl
          replace hres:=Lib.hid hres
          clear bW hW bRz hown7 hgrow7 hat7 hown6
          go_wp2_with fail
          exact bodyPost_ret (v:=.agg #[.slice a5 l8.length c5,.slice (some ⟨gq,0,none⟩) (cn + 1) cq]) (by simp [results,Tryz.results65,go_sem,q0,q1]) rfl hres.out
        · obtain ⟨bRz,hW⟩:=hfin.out w6 a7 cn c7 pa hb56 hown6 hplc.symm (by rw [hs1.out]; exact hpp.out.symm)
          obtain ⟨bW,hres⟩:=hW _ rfl
          have r0:=bRz.cell (i:=0) rfl
          have r1:=bRz.cell (i:=1) rfl
          have f0:=bRz.free 0
          have f1:=bRz.free 1
          have q0:=bW.cell (i:=0) rfl
          have q1:=bW.cell (i:=1) rfl
          replace hres:=Lib.hid hres
          clear bW hW bRz hown6
          go_wp2_with fail
          exact bodyPost_ret (v:=.agg #[.slice a5 l8.length c5,.slice a7 cn c7]) (by simp [results,Tryz.results65,go_sem,q0,q1]) rfl hres.out
  by_cases hk2 : kt = 2
  · subst hk2
    have hs1 : Hid (s' = match M7.endAt O nt d with | some i => ⟨L,i⟩ | none => ⟨L,d⟩):=by
      show _ = _
      rw [← hs'.out,← hO.out]; rfl
    obtain ⟨wf,hwf⟩ : ∃ W,Hid (W = w4):=⟨_,rfl⟩
    replace bxB:=Lib.hid bxB
    replace bxT:=Lib.hid bxT
    replace bxR:=Lib.hid bxR
    replace hbo:=Lib.hid hbo
    clear hs'
    go_upto_region 18 with (fail)
    have hbx : Hid (∀ W : World,W.heap = w4.heap → Box W wo.heap.size 84 [.slice a L.length cap,.slice ap d cp] ∧ Box W (wo.heap.size + 1) 87 [.int .i64 2,.string nt,.slice at_ att.length ct,.string tt] ∧ Box W (wo.heap.size + 1 + 1) 84 [.slice none 0 0,.slice none 0 0]):=fun W h => ⟨bxB.out.keep (by rw [h]),bxT.out.keep (by rw [h]),bxR.out.keep (by rw [h])⟩
    clear p0 p1 k0 k1 k2 k3 r0 r1 f0 f1 hwf
    go_loopw [12] (fun u12 wr => ∃ k : Nat,k ≤ d ∧ u12 = .int .i64 ((k : Int) - 1) ∧ M7.endAt O nt d = M7.endAt O nt k ∧ wr.heap = w4.heap ∧ Below wo.heap.size wo wr) (fun u12 _ => (intOf u12 + 1).toNat)
    case atStart => exact ⟨d,Nat.le_refl _,by simp,rfl,rfl,hbo.out⟩
    case round =>
      obtain ⟨k,hk,rfl,hke,hqh,hbr⟩:=hrel
      obtain ⟨wr',rfl⟩ : ∃ W : World,W = wr:=⟨_,rfl⟩
      cases k with
      | zero =>
        have hs2 : Hid (s' = ⟨L,d⟩):=by
          show _ = _
          rw [hs1.out,hke]; rfl
        obtain ⟨bB,bT,bR⟩:=hbx.out wr' hqh
        have p0:=bB.cell (i:=0) rfl
        have p1:=bB.cell (i:=1) rfl
        have k0:=bT.cell (i:=0) rfl
        have r0:=bR.cell (i:=0) rfl
        have r1:=bR.cell (i:=1) rfl
        have f0:=bR.free 0
        have f1:=bR.free 1
        have bx2:=bR.two (.slice a L.length cap) (.slice ap d cp)
        have q0:=bx2.cell (i:=0) rfl
        have q1:=bx2.cell (i:=1) rfl
        have hbf:=Lib.hid (two_below hbr (g:=wo.heap.size + 1 + 1) (.slice a L.length cap) (.slice ap d cp) (by omega))
        clear bx2 hs1 hke bB bT bR hqh hbr
        go_wp2_with fail
        refine bodyPost_ret (v:=.agg #[.slice a L.length cap,.slice ap d cp]) (by simp [results,Tryz.results65,go_sem,q0,q1]) rfl ?_
        rw [hs2.out]
        refine ⟨_,_,rfl,?_,?_,hbf.out⟩
        · exact (hr.out.below hS hbf.out).mono (fun b hb => Or.inl hb)
        · exact Row.mono (hp.out.below hS hbf.out) (fun b hb => Or.inl hb)
      | succ i =>
        have hio : i < O.length:=by omega
        obtain ⟨bo,oo,eo,-,c0⟩:=Row.atS (Row.keep hto.out (w':=wr') (fun b _ => by rw [hqh])) i hio
        subst eo
        have hi1 : (((i + 1 : Nat) : Int) - 1) = (i : Int):=by omega
        rw [hi1]
        have hI0 : (0 : Int) ≤ (i : Int):=by omega
        have hI1 : (i : Int) < (d : Int):=by omega
        have hoi : O.getD i ⟨#[]⟩ = O[i]:=by simp [List.getD,hio]
        rw [M7.endAt,hoi] at hke
        obtain ⟨bB,bT,bR⟩:=hbx.out wr' hqh
        have k1:=bT.cell (i:=1) rfl
        replace hqh:=Lib.hid hqh
        replace hbr:=Lib.hid hbr
        clear bB bT bR
        by_cases hE : O[i] = nt
        · rw [if_pos (by rw [hE])] at hke
          have hs2 : Hid (s' = ⟨L,i⟩):=by
            show _ = _
            rw [hs1.out,hke]
          rw [hE] at c0
          obtain ⟨bp,offp,eap,-,-⟩:=Ints.at_ hp.out 0 ((M7.pathN d L)[0]'(by omega)) (List.getElem?_eq_getElem _)
          subst eap
          have hI2 : (i : Int) ≤ (cp : Int):=by omega
          clear hs1 hke hoi hE
          go_upto_region 20 with (fail)
          go_quiet (fail)
          have hbq:=below_drewN hbr.out nq
          obtain ⟨wq,hwq⟩ : ∃ wq : World,wq = wr'.drewN nq:=⟨_,rfl⟩
          have hqq : wq.heap = w4.heap:=by rw [hwq,← hqh.out]; rfl
          rw [← hwq] at hbq ⊢
          clear hwq c0 k1
          obtain ⟨bB,bT,bR⟩:=hbx.out wq hqq
          have p0:=bB.cell (i:=0) rfl
          have p1:=bB.cell (i:=1) rfl
          have r0:=bR.cell (i:=0) rfl
          have r1:=bR.cell (i:=1) rfl
          have f0:=bR.free 0
          have f1:=bR.free 1
          replace hqq:=Lib.hid hqq
          replace hbq:=Lib.hid hbq
          replace bR:=Lib.hid bR
          clear bB bT
          go_wp2_with fail
          go_still_tail 7,(by kernel_rfl)
          change wpList _ _ _ _ _ wq.drew
          have bx2:=bR.out.two (.slice a L.length cap) (.slice (some ⟨bp,offp,none⟩) i cp)
          have q0 : ((wq.setCell ⟨wo.heap.size + 1 + 1,0,none⟩ (.slice a L.length cap)).setCell ⟨wo.heap.size + 1 + 1,1,none⟩ (.slice (some ⟨bp,offp,none⟩) i cp)).drew.cell? ⟨wo.heap.size + 1 + 1,0,none⟩ = some (.slice a L.length cap):=bx2.cell (i:=0) rfl
          have q1 : ((wq.setCell ⟨wo.heap.size + 1 + 1,0,none⟩ (.slice a L.length cap)).setCell ⟨wo.heap.size + 1 + 1,1,none⟩ (.slice (some ⟨bp,offp,none⟩) i cp)).drew.cell? ⟨wo.heap.size + 1 + 1,1,none⟩ = some (.slice (some ⟨bp,offp,none⟩) i cp):=bx2.cell (i:=1) rfl
          have hbf:=Lib.hid (two_below hbq.out (g:=wo.heap.size + 1 + 1) (.slice a L.length cap) (.slice (some ⟨bp,offp,none⟩) i cp) (by omega)).drew
          clear bx2
          go_wp2_with fail
          refine bodyPost_ret (v:=.agg #[.slice a L.length cap,.slice (some ⟨bp,offp,none⟩) i cp]) (by simp [results,Tryz.results65,go_sem,q0,q1]) rfl ?_
          rw [hs2.out]
          refine ⟨_,_,rfl,?_,?_,hbf.out⟩
          · exact (hr.out.below hS hbf.out).mono (fun b hb => Or.inl hb)
          · show Ints _ _ _ (M7.pathN i L)
            rw [M7.pathN_take hok.out (by omega)]
            exact Row.mono ((hp.out.take i (by omega)).below hS hbf.out) (fun b hb => Or.inl hb)
        · rw [if_neg (fun h => hE (ByteArray.ext (Array.toList_inj.1 h)))] at hke
          generalize O[i] = oi at *
          have hne : (oi.toList == nt.toList) = false:=beq_eq_false_iff_ne.2 (fun h => hE (ByteArray.ext (Array.toList_inj.1 (by rwa [Lib.toList_data,Lib.toList_data] at h))))
          replace hke:=Lib.hid hke
          clear hoi
          go_upto_region 20 with (fail)
          go_quiet (fail)
          have hbq:=Lib.hid (below_drewN hbr.out nq)
          obtain ⟨wq,hwq⟩ : ∃ wq : World,wq = wr'.drewN nq:=⟨_,rfl⟩
          have hqq : Hid (wq.heap = w4.heap):=by show _ = _; rw [hwq,← hqh.out]; rfl
          rw [← hwq] at hbq ⊢
          clear hwq
          go_wp2_with fail
          go_roundw
          case rel => exact ⟨i,by omega,by go_num,hke.out,hqq.out,hbq.out⟩
          case measure => simp [intOf]
  have hs1 : Hid (s' = ⟨L,d⟩):=by
    show _ = _
    rw [← hs'.out]
    unfold M7.step
    rw [if_neg hk1,if_neg hk2,if_neg hk3,if_neg hk4]
  have d1 : decide (kt = 1) = false:=by simpa using hk1
  have d2 : decide (kt = 2) = false:=by simpa using hk2
  have d3 : decide (kt = 3) = false:=by simpa using hk3
  have d4 : decide (kt = 4) = false:=by simpa using hk4
  have bx2:=bxR.two (.slice a L.length cap) (.slice ap d cp)
  have q0:=bx2.cell (i:=0) rfl
  have q1:=bx2.cell (i:=1) rfl
  replace bxB:=Lib.hid bxB
  replace bxT:=Lib.hid bxT
  replace bxR:=Lib.hid bxR
  have hbf:=Lib.hid (two_below hbo (g:=wo.heap.size + 1 + 1) (.slice a L.length cap) (.slice ap d cp) (by omega))
  replace hbo:=Lib.hid hbo
  clear bx2
  go_wp2_with fail
  refine bodyPost_ret (v:=.agg #[.slice a L.length cap,.slice ap d cp]) (by simp [results,Tryz.results65,go_sem,q0,q1]) rfl ?_
  rw [hs1.out]
  refine ⟨_,_,rfl,?_,?_,hbf.out⟩
  · exact (hr.out.below hS hbf.out).mono (fun b hb => Or.inl hb)
  · exact Row.mono (hp.out.below hS hbf.out) (fun b hb => Or.inl hb)
end Go.Proofs.YteefodibpjgicaaGreat
