/- Texts joined: BldO. -/
import Derived.Sort.CutIn
import Derived.Test.YteefodibpjgicaaGreatA36
namespace Go.Proofs.YteefodibpjgicaaGreat
open Go.RowKit Go.Shelf
attribute [local go_sem] Oper.semAt_some
theorem World.ownsRow_of_alloc5 (w : World) (B : Nat) (e : TypeId) (cs : List Value) (hB : B ≤ w.heap.size) (hl : cs.length = 5) : (w.alloc (.cells cs.toArray e)).ownsRow B e 5 (.slice (some ⟨w.heap.size,0,none⟩) 1 1) 1 cs :=
  ⟨by omega,.inr ⟨w.heap.size,1,cs.toArray,rfl,hB,heap_alloc_new w _,Nat.le_refl _,by unfold maxLen; omega,by simp; omega,by
    rw [List.take_of_length_le (by simp; omega)]⟩⟩
theorem Bld.evs {F : Nat → Prop} {w : World} {g mb : Nat} {vo vt pt : Value} {fs : List FV} {tx : List UInt8} {n q : Nat} {D : DataW Unit} {s : M7.St} (h : Bld F w g mb vo vt pt fs tx n D) (hI : BInv fs tx n D s q) (hq : q ≤ 400000) : ∀ f ∈ fs,RepV F w f.x f.va f.vk ∧ M3.weight f.x.kids ≤ 1000000 ∧ f.x.attrs.length ≤ 1000000:=by
  intro f hf
  obtain ⟨xs,h1,h2⟩:=h.kids f hf
  obtain ⟨i,hi⟩:=List.mem_iff_getElem?.1 hf
  refine ⟨⟨(h.atts f hf).mono (fun b hb => hb.1),xs,Row.own h1 (fun c hc => h.sub (i + 4) c (by rw [Bld.kid_role hi]; exact hc)),RepC.mono (fun b hb => hb.1) _ _ h2⟩,?_,?_⟩
  · have:=(hI.fits f hf).1; omega
  · have:=(hI.fits f hf).2; omega
set_option maxRecDepth 100000 in
set_option maxHeartbeats 8000000 in
theorem bNodes_in (n : Nat) (hn : 3 ≤ n) {F : Nat → Prop} {w : World} {g mb q : Nat} {s : M7.St} (h : BS F w g mb s q) (hq : q ≤ 400000) :
    CallsIn Fence.wide n Tryz.prog 206 #[.pointer (some ⟨g,0,none⟩)] w fun e W' => ∃ v,e = .returned v ∧ Fresh W' w.heap.size v s.L ∧ BS F W' g mb s q ∧ Out F w W':=by
  have hmx : Tryz.prog.follows .mixedOrders = true:=by kernel_rfl
  obtain ⟨vo,vt,pt,fs,tx,n0,D,hB,hI⟩:=h
  have hro : Fence.wide.round = none:=rfl
  have h1 : 1 ≤ n:=by omega
  have hlt:=Lib.hid hB.lt
  have bL0:=Boxed.new w 25 (.slice none 0 0)
  have hB0 : Below w.heap.size w (w.alloc (.cells #[.slice none 0 0] 25)):=(Below.refl _ w).alloc (Nat.le_refl _) _
  have hsz : (w.alloc (.cells #[.slice none 0 0] 25)).heap.size = w.heap.size + 1:=by simp
  have hBl:=hB.below hB0
  obtain ⟨at_,ct,hvt⟩:=hB.text_slice
  have hLen : Hid (∀ W,Bld F W g mb vo vt pt fs tx n0 D → Calls Tryz.prog 208 #[.pointer (some ⟨g,1,none⟩)] W fun e w' => e = .returned (.int .i64 (tx.length : Int)) ∧ W = w'):=fun W hW => by
    have b2:=hW.box.cell (i:=2) rfl
    rw [hvt] at b2
    exact bxLen g _ _ _ W b2
  have hTold : Hid (tx ≠ [] → ∀ W,Bld F W g mb vo vt pt fs tx n0 D → Calls Tryz.prog 209 #[.pointer (some ⟨g,0,none⟩)] W fun e w' => e = .returned (textV tx) ∧ Bld F w' g mb vo vt pt fs tx n0 D ∧ Out F W w'):=fun ht W hW => bTold2 hW ht
  replace hI:=Lib.hid hI
  replace hBl:=Lib.hid hBl
  clear hB
  refine callsIn_of_wp_marks Tryz.func206 rfl trivial ?_ hro
  simp only [Tryz.ntmps206,List.size_toArray,List.length_cons,List.length_nil,Nat.reduceAdd,Nat.reduceSub,Array.replicate_succ,Array.replicate_zero,List.push_toArray,List.append_toArray,List.nil_append,List.cons_append]
  gi_upto_if 11 with (refine ⟨trivial,?_⟩; gi_at_call 208; refine (callsIn_wide.2 (hLen.out _ hBl.out)).mono ?_; rintro e w' ⟨rfl,rfl⟩)
  obtain ⟨w0,hw0⟩ : ∃ W,w.alloc (.cells #[.slice none 0 0] 25) = W:=⟨_,rfl⟩
  rw [hw0] at bL0 hB0 hsz hBl ⊢
  clear hw0
  gi_cut [] from 7 (fun wx => Bld F wx g mb vo vt pt fs tx n0 D ∧ Out F w wx ∧ (∃ v,Boxed wx w.heap.size 25 v ∧ Fresh wx (w.heap.size + 1) v (M7.endK tx) ∧ (M7.endK tx = [] → v = .slice none 0 0)) ∧ w.heap.size + 1 ≤ wx.heap.size)
  case first =>
    by_cases htx : tx = []
    · have hN : ∃ v,Boxed w0 w.heap.size 25 v ∧ Fresh w0 (w.heap.size + 1) v (M7.endK tx) ∧ (M7.endK tx = [] → v = .slice none 0 0):=⟨_,bL0,by rw [htx]; exact Fresh.nil _ _,fun _ => rfl⟩
      have ht0 : decide ((0 : Int) < (tx.length : Int)) = false:=by rw [htx]; rfl
      have ht1 : ¬ (0 < tx.length):=by rw [htx]; decide
      have ht2 : ¬ ((0 : Int) < (tx.length : Int)):=by omega
      replace hN:=Lib.hid hN
      clear htx
      gi_wp2_with (fail)
      gi_meet
      case rel => exact ⟨hBl.out,⟨hB0.os,hB0.tape,hB0.output,hB0.size,fun b hb _ => hB0.block b hb⟩,hN.out,by omega⟩
    · have htl : 0 < tx.length:=List.length_pos_iff.2 htx
      have ht0 : decide ((0 : Int) < (tx.length : Int)) = true:=decide_eq_true (by omega)
      gi_wp2_with (refine ⟨trivial,?_⟩; gi_at_call 209; refine (callsIn_wide.2 (hTold.out htx _ hBl.out)).mono ?_; rintro e w1 ⟨rfl,hB1,hO1⟩; have bL1 : Boxed w1 w.heap.size 25 (.slice none 0 0):=(hO1.block _ (by omega) (fun e => by have:=hlt.out _ e; omega)).trans bL0; have cL:=(bL1.alloc (.cells #[.int .i64 2,.string ⟨#[]⟩,.slice none 0 0,.string ⟨tx.toArray⟩,.slice none 0 0] 41)).cell; have fL:=(bL1.alloc (.cells #[.int .i64 2,.string ⟨#[]⟩,.slice none 0 0,.string ⟨tx.toArray⟩,.slice none 0 0] 41)).frozen; replace hB1:=Lib.hid hB1; replace hO1:=Lib.hid hO1; replace bL1:=Lib.hid bL1)
      gi_meet
      case rel =>
        have hb1 : Below w1.heap.size w1 (w1.alloc (.cells #[.int .i64 2,.string ⟨#[]⟩,.slice none 0 0,.string ⟨tx.toArray⟩,.slice none 0 0] 41)):=(Below.refl _ w1).alloc (Nat.le_refl _) _
        have hz1:=hO1.out.size
        have hbl : ∀ b,F b → b ≠ w.heap.size:=fun b hb e => by have:=hlt.out b hb; omega
        refine ⟨hB1.out.keep (fun _ h => h) (fun b hb => by have:=hlt.out b hb; simp; omega) (fun b hb => (Below.heap_setCell _ _ _ _ (hbl b hb)).trans (hb1.block b (by have:=hlt.out b hb; omega))),⟨hO1.out.os.trans hB0.os,hO1.out.tape.trans hB0.tape,hO1.out.output.trans hB0.output,by simp; omega,fun b hb hF => (Below.heap_setCell _ _ _ _ (by show b ≠ w.heap.size; omega)).trans ((hb1.block b (by omega)).trans ((hO1.out.block b (by omega) hF).trans (hB0.block b hb)))⟩,⟨_,((bL1.out.alloc _).set _),?_,fun e => by rw [M7.endK_cons htx] at e; cases e⟩,by simp; omega⟩
        have hown:=World.ownsRow_of_alloc5 w1 (w.heap.size + 1) 41 [.int .i64 2,.string ⟨#[]⟩,.slice none 0 0,.string ⟨tx.toArray⟩,.slice none 0 0] (by omega) rfl
        rw [M7.endK_cons htx]
        refine Fresh.keep (w:=w1.alloc (.cells #[.int .i64 2,.string ⟨#[]⟩,.slice none 0 0,.string ⟨tx.toArray⟩,.slice none 0 0] 41)) ⟨_,[],hown,OwnC.cons_iff.2 ⟨.slice none 0 0,.slice none 0 0,[],[],[],[],rfl,World.ownsRow_nil _ _ _ _,World.ownsRow_nil _ _ _ _,rfl,OwnC.nil _,OwnC.nil _⟩,?_⟩ (fun b hb _ => Below.heap_setCell _ _ _ _ (by show b ≠ w.heap.size; omega)) (by simp)
        exact ⟨by simp [Value.ownBlock],fun b hb => by simp [Value.ownBlock] at hb; subst hb; simp; omega⟩
  case rest =>
    obtain ⟨hBc,hOc,⟨v0,bLc,hFc,hnc⟩,hzc⟩:=hcut
    replace hnc:=Lib.hid hnc
    have k0:=hBc.box.cell (i:=0) rfl
    obtain ⟨go,cap,hvo,hvc,hvm,hcl⟩:=hBc.open_slice hI.out.ne
    rw [hvo] at k0
    have hgo : F go:=hBc.sub 2 go (by rw [hvo]; rfl)
    have hfs:=hI.out.fsq
    have hfp:=List.length_pos_iff.2 hI.out.ne
    obtain ⟨T,hT,hix⟩:=EV.of (S:=F) (w0:=wc) 0 fs (hBc.evs hI.out hq)
    have hTl : T.length = fs.length:=by rw [← hT,List.length_map]
    have hL:=hI.out.L
    have hzl : (M7.endK tx).length ≤ 1:=by unfold M7.endK; split <;> simp
    replace hBc:=Lib.hid hBc
    replace hcl:=Lib.hid hcl
    replace hix:=Lib.hid hix
    replace hT:=Lib.hid hT
    replace hL:=Lib.hid hL
    replace hFc:=Lib.hid hFc
    replace hOc:=Lib.hid hOc
    gi_wp2_with (refine ⟨trivial,?_⟩; gi_at_call 210; refine (bwd Fence.wide (n - 1) trivial hro _ _ _ _).mono ?_; rintro e w' ⟨rfl,rfl⟩)
    have hbd : Below wc.heap.size wc (wc.alloc (.cells #[.slice (some ⟨go,0,none⟩) fs.length cap] 190)):=(Below.refl _ wc).alloc (Nat.le_refl _) _
    have bBt:=Boxed.new wc 190 (.slice (some ⟨go,0,none⟩) fs.length cap)
    have hszd : (wc.alloc (.cells #[.slice (some ⟨go,0,none⟩) fs.length cap] 190)).heap.size = wc.heap.size + 1:=by simp
    obtain ⟨wd,hwd⟩ : ∃ W,wc.alloc (.cells #[.slice (some ⟨go,0,none⟩) fs.length cap] 190) = W:=⟨_,rfl⟩
    rw [hwd] at hbd bBt hszd ⊢
    clear hwd
    have hI0 : NI w.heap.size wd (bkN (M7.endK tx) []) wd:=⟨v0,hbd.block _ bLc.lt |>.trans bLc,hFc.out.cells (fun b ⟨cs,t,hc⟩ => hbd.block b (Array.getElem?_eq_some_iff.1 hc).1) hbd.size,hnc.out,Out.refl _ _⟩
    refine wpIn_rangeFunc_ownH hro h1 (gf:=217) (lb:=#[.pointer (some ⟨wc.heap.size,0,none⟩)]) rfl trivial (enters_of Tryz.func217 (by kernel_rfl) rfl)
      (bwdStops Fence.wide (n - 1) trivial hro (by omega) F wc wc.heap.size go cap (fun b => F b ∨ b = wc.heap.size) T wd (fun i hi => by have:=hix.out i hi; omega) (.inr rfl) (.inl hgo) (fun b hb => by rcases hb with hb | hb; (have:=hlt.out b hb; omega); omega) (by omega) (by omega) (by rw [hTl]; exact bBt.cell) (fun j u hu => by rw [hT.out] at hu; exact (hbd.cell (p:=⟨go,j,none⟩) (World.block_lt_of_cell? wc _ (hcl.out j u hu))).trans (hcl.out j u hu)))
      (fun h k => h.trans k) (kpP_b (fun b hb => by rcases hb with hb | hb; (have:=hlt.out b hb; omega); omega)) (Below.refl _ _) (fun _ => rfl)
      (fun pre W => NI w.heap.size wd (bkN (M7.endK tx) (pre.map (fun x => x.f.x))) W)
      (fun _ _ _ => False)
      (NI.own (fun (pre : List (EV F wc)) => bkN (M7.endK tx) (pre.map (fun x => x.f.x))))
      (fun _ _ _ _ _ hs _ _ => hs)
      hI0
      (fun x a' W => ∃ Bx,wd.heap.size ≤ Bx ∧ Box W Bx 189 x.f.cells ∧ a' = { tmps:=#[.pointer (some ⟨g,0,none⟩),undef,.slice none 0 0,.pointer (some ⟨w.heap.size,0,none⟩),undef,.pointer (some ⟨Bx,0,none⟩),undef,u7,u8,u9,u10,u11,u12,u13,u14,.pointer (some ⟨g,0,none⟩),.pointer (some ⟨g,0,none⟩),.pointer (some ⟨g,0,none⟩),.slice (some ⟨go,0,none⟩) fs.length cap,.func (.func 217) #[] #[.pointer (some ⟨wc.heap.size,0,none⟩)],.int .i64 (x.ix : Int),eV x.f,u22,u23,u24,u25,u26,u27,u28,u29,u30,u31,u32,u33,u34,u35,u36,u37,u38,u39,u40],defers:=[] })
      (fun x a' _ X Y row hs hg hr => by obtain ⟨Bx,h1,h2,h3⟩:=hs; exact ⟨Bx,h1,box_own h2 hg (fun r e => (hr r e).2),h3⟩)
      ?assign ?body ?done ?stop
    case assign =>
      rintro l0 pre x W K hIp hK
      obtain ⟨a1,c1,h1⟩:=x.rep.at_.slice
      obtain ⟨a2,c2,h2⟩:=x.rep.kids.slice
      have hx : EV.args x = #[.int .i64 (x.ix : Int),.agg #[.int .i64 x.f.x.kind,.string x.f.x.name,x.f.va,.string x.f.x.text,x.f.vk,.int .i64 (x.f.nx : Int)]]:=rfl
      rw [hx]
      replace hK:=Lib.hid hK
      gi_wp2
      have hb1 : Below W.heap.size W (W.alloc (.cells #[.int .i64 x.f.x.kind,.string x.f.x.name,.slice a1 x.f.x.attrs.length c1,.string x.f.x.text,.slice a2 x.f.x.kids.length c2,.int .i64 (x.f.nx : Int)] 189)):=(Below.refl _ W).alloc (Nat.le_refl _) _
      have hbox:=Box.new W 189 x.f.cells
      unfold FV.cells at hbox
      rw [h1,h2] at hbox
      have hzW : wd.heap.size ≤ W.heap.size:=by obtain ⟨_,_,_,_,ho⟩:=hIp; exact ho.size
      exact hK.out _ _ (kf_of_below hb1) (fun b hb => hb1.block b (by rcases hb with hb | hb; (have:=hlt.out b hb; omega); omega)) (hIp.below hb1) ⟨W.heap.size,hzW,by unfold FV.cells; rw [h1,h2]; exact hbox,by unfold eV; rw [h1,h2]⟩
    case body =>
      rintro l pre x a' Wb hl ⟨r,hr⟩ hIp ⟨Bx,hBx,bX,rfl⟩ hltp
      obtain ⟨vl,bL,hFr,hnil,hOd⟩:=hIp
      obtain ⟨a1,c1,h1⟩:=x.rep.at_.slice
      obtain ⟨a2,c2,h2⟩:=x.rep.kids.slice
      unfold FV.cells at bX
      rw [h1,h2] at bX
      have hl1:=bkN_len (M7.endK tx) hzl (pre.map (fun x => x.f.x))
      have hzW:=hOd.size
      have hgl1 : w.heap.size + 1 ≤ Wb.heap.size:=by omega
      have hFl : Hid (∀ b,F b → b < Wb.heap.size):=fun b hb => by have:=hlt.out b hb; omega
      have hsame : ∀ b,F b → Wb.heap[b]? = wc.heap[b]?:=fun b hb => by
        have:=hlt.out b hb
        exact (hOd.block b (by omega) (by show b ≠ w.heap.size; omega)).trans (hbd.block b (by omega))
      have hkid : Hid (RepN F Wb (.slice a2 x.f.x.kids.length c2) x.f.x.kids):=by
        have:=x.rep.kids.keep hsame
        rw [h2] at this
        exact this
      have hatt : Hid (Row F Wb 2 (.slice a1 x.f.x.attrs.length c1) x.f.x.attrs.length (cellsA x.f.x.attrs)):=by
        have:=x.rep.at_.keep hsame
        rw [h1] at this
        exact this
      replace bX:=Lib.hid bX
      replace bL:=Lib.hid bL
      have mixed:=hmx
      replace hFr:=Lib.hid hFr
      replace hnil:=Lib.hid hnil
      replace hOd:=Lib.hid hOd
      clear hsame
      gi_wp2_with (fail)
      refine wpIn_region_known (n:=7) ([some (.pointer (some ⟨Bx,0,none⟩)),some (.pointer (some ⟨Bx,4,none⟩)),some (.slice a2 x.f.x.kids.length c2),none,some (vl),none,none] : List (Option Value)) (fun t => ⟨#[Value.pointer (some ⟨g,0,none⟩),undef,Value.slice none 0 0,Value.pointer (some ⟨w.heap.size,0,none⟩),undef,Value.pointer (some ⟨Bx,0,none⟩),t 6,u7,u8,u9,u10,u11,u12,u13,u14,Value.pointer (some ⟨g,0,none⟩),Value.pointer (some ⟨g,0,none⟩),Value.pointer (some ⟨g,0,none⟩),Value.slice (some ⟨go,0,none⟩) fs.length cap,Value.func (Fn.func 217) #[] #[Value.pointer (some ⟨wc.heap.size,0,none⟩)],Value.int IntKind.i64 (x.ix : Int),eV x.f,t 0,t 1,t 2,t 3,t 4,t 5,u28,u29,u30,u31,u32,u33,u34,u35,u36,u37,u38,u39,u40],[]⟩) (fun f t W => NdI Wb (w.heap.size + 1) x.f.x.kids (bkN (M7.endK tx) (pre.map (fun x => x.f.x))) f t W) (fun j => match j with | 0 => u22 | 1 => u23 | 2 => u24 | 3 => u25 | 4 => u26 | 5 => u27 | 6 => undef | _ => undef) (by kernel_rfl) (by rfl) (by rfl) (by kernel_rfl) rfl ?i0 ?step ?fin
      case i0 =>
        exact NdI.start
      case step =>
        intro j0 hj0 f t W hfi hwt hcl hk2 hI
        have h53 : f 5 = true → f 3 = true:=hcl 5 3 (by kernel_rfl)
        have h65 : f 6 = true → f 5 = true:=hcl 6 5 (by kernel_rfl)
        have hcl32 : f 3 = true → f 2 = true:=hcl 3 2 (by kernel_rfl)
        have hcl54 : f 5 = true → f 4 = true:=hcl 5 4 (by kernel_rfl)
        clear hcl
        obtain rfl | rfl | rfl | rfl | rfl | rfl | rfl : j0 = 0 ∨ j0 = 1 ∨ j0 = 2 ∨ j0 = 3 ∨ j0 = 4 ∨ j0 = 5 ∨ j0 = 6:=by omega
        · -- operation 0
          replace hI:=Lib.hid hI
          replace hk2:=Lib.hid hk2
          clear hwt
          refine wpOpIn_step rfl (fun K hK => ?_)
          go_simp
          exact hK _ _ ⟨_,by simp [updT],hk2.out.at_ rfl,hI.out.same _ _ (by decide) (by decide) (by decide)⟩
        · -- operation 1
          have e0 : t 0 = .pointer (some ⟨Bx,0,none⟩):=hk2 0 _ (hwt 0 (by kernel_rfl)) rfl
          replace hI:=Lib.hid hI
          replace hk2:=Lib.hid hk2
          clear hwt
          refine wpOpIn_step rfl (fun K hK => ?_)
          go_simp
          exact hK _ _ ⟨_,by simp [updT,e0],hk2.out.at_ rfl,hI.out.same _ _ (by decide) (by decide) (by decide)⟩
        · -- operation 2
          have e1 : t 1 = .pointer (some ⟨Bx,4,none⟩):=hk2 1 _ (hwt 1 (by kernel_rfl)) rfl
          have hW : W = Wb.drew:=hI.1 (Bool.eq_false_iff.2 (fun h => by have q:=hcl32 h; rw [hfi] at q; cases q))
          have k4:=bX.out.cell (i:=4) rfl
          subst hW
          replace hk2:=Lib.hid hk2
          replace hI:=Lib.hid hI
          clear hwt
          refine wpOpIn_step rfl (fun K hK => ?_)
          go_simp
          exact hK _ _ ⟨_,by simp [updT,e1],hk2.out.at_ rfl,hI.out.same _ _ (by decide) (by decide) (by decide)⟩
        · -- operation 3
          have e2 : t 2 = .slice a2 x.f.x.kids.length c2:=hk2 2 _ (hwt 2 (by kernel_rfl)) rfl
          have hW : W = Wb.drew:=hI.1 hfi
          have h5 : f 5 = false:=Bool.eq_false_iff.2 (fun h => by rw [h53 h] at hfi; cases hfi)
          have h6 : f 6 = false:=Bool.eq_false_iff.2 (fun h => by rw [h65 h] at h5; cases h5)
          subst hW
          have hC:=Lib.hid (domClone (M3.weight x.f.x.kids + 1) F (.slice a2 x.f.x.kids.length c2) x.f.x.kids Wb.drew (by omega) x.few.1 (fun b h => hFl.out b h) (hkid.out.keep (fun _ _ => rfl)))
          replace hk2:=Lib.hid hk2
          replace hI:=Lib.hid hI
          clear hwt
          refine wpOpIn_step rfl (fun K hK => ?_)
          go_simp
          refine ⟨trivial,(fun h => by cases h),?_⟩
          refine (CallsIn.inRound l (callsIn_wide.2 hC.out)).mono ?_
          rintro e w5 ⟨v5,rfl,hf5,hb5⟩
          exact hK _ _ ⟨v5,by simp [updT,e2],hk2.out.free rfl,NdI.clone h5 h6 ⟨hb5.os,hb5.tape,hb5.output,hb5.size,hb5.block⟩ hf5⟩
        · -- operation 4
          have hbW : W.cell? ⟨w.heap.size,0,none⟩ = some vl:=by
            cases h3 : f 3
            · rw [hI.1 h3]; exact bL.out.cell
            · have h5 : f 5 = false:=Bool.eq_false_iff.2 (fun h => by have q:=hcl54 h; rw [hfi] at q; cases q)
              exact ((hI.2.1 h3 h5).1.cell (p:=⟨w.heap.size,0,none⟩) bL.out.lt).trans bL.out.cell
          replace hk2:=Lib.hid hk2
          replace hI:=Lib.hid hI
          clear hwt
          refine wpOpIn_step rfl (fun K hK => ?_)
          go_simp
          exact hK _ _ ⟨_,by simp [updT,],hk2.out.at_ rfl,hI.out.same _ _ (by decide) (by decide) (by decide)⟩
        · -- operation 5
          have e4 : t 4 = vl:=hk2 4 _ (hwt 4 (by kernel_rfl)) rfl
          have h3:=hwt 3 (by kernel_rfl)
          have h6 : f 6 = false:=Bool.eq_false_iff.2 (fun h => by rw [h65 h] at hfi; cases hfi)
          obtain ⟨hb3,hf3⟩:=hI.2.1 h3 hfi
          obtain ⟨r5,w5,hrun5,hb5,hf5⟩:=lastly hb3 hf3 hFr.out hnil.out hl1 hgl1 (by have:=M3.length_le_weight x.f.x.kids; have:=x.few.1; omega) 25
          replace hk2:=Lib.hid hk2
          replace hI:=Lib.hid hI
          clear hwt
          refine wpOpIn_append_run rfl rfl _ _ 25 rfl _ _ _ rfl (by show t 4 = _; exact e4) hrun5 ?_
          exact ⟨r5,by simp [updT,Act.put],hk2.out.free rfl,NdI.app h3 h6 hb5 hf5⟩
        · -- operation 6
          replace hk2:=Lib.hid hk2
          replace hI:=Lib.hid hI
          clear hwt
          refine wpOpIn_step rfl (fun K hK => ?_)
          go_simp
          exact hK _ _ ⟨_,by simp [updT],hk2.out.free rfl,hI.out.fin⟩
      case fin =>
        intro f t W hall hk2 hI
        have e6:=hI.2.2.2 (hall 6 (by omega))
        obtain ⟨hb6,hf6⟩:=hI.2.2.1 (hall 5 (by omega))
        rw [e6]
        generalize t 5 = vK at *
        clear hk2 hall hI e6
        have bXW:=bX.out.below hb6 bX.out.lt
        have bLW : Boxed W w.heap.size 25 vl:=(hb6.block _ bL.out.lt).trans bL.out
        have x1:=bXW.cell (i:=1) rfl
        have x2:=bXW.cell (i:=2) rfl
        have hz6:=hb6.size
        generalize hkl : x.f.x.kids ++ bkN (M7.endK tx) (pre.map (fun x => x.f.x)) = kl at hf6
        replace hkl:=Lib.hid hkl
        obtain ⟨zsK,FK,oK,cK,sK⟩:=hf6
        obtain ⟨aK,ccK,rfl⟩:=own_slice oK
        have hB7:=Lib.hid (bBegun F x.f.x.name x.f.x.attrs (.slice a1 x.f.x.attrs.length c1) (.slice aK kl.length ccK) W (hatt.out.keep (fun b hb => hb6.block b (hFl.out b hb))) (fun b hb => by have:=hFl.out b hb; omega) ⟨_,_,_,rfl⟩ x.few.2)
        replace oK:=Lib.hid oK
        replace cK:=Lib.hid cK
        replace sK:=Lib.hid sK
        replace bLW:=Lib.hid bLW
        clear bXW
        gi_wp2_with (fail)
        refine ⟨trivial,(fun h => by cases h),?_⟩
        refine (CallsIn.inRound l (callsIn_wide.2 hB7.out)).mono ?_
        rintro e W7 ⟨va7,rfl,o7,hb7⟩
        obtain ⟨a7,c7,rfl⟩:=own_slice o7
        have bL7 : Boxed W7 w.heap.size 25 vl:=(hb7.block _ bLW.out.lt).trans bLW.out
        have bL8:=bL7.alloc (.cells #[.int .i64 1,.string x.f.x.name,.slice a7 x.f.x.attrs.length c7,.string ⟨#[]⟩,.slice aK kl.length ccK] 41)
        have cL:=bL8.cell
        have fL:=bL8.frozen
        have hz7:=hb7.size
        have hb8 : Below W7.heap.size W7 (W7.alloc (.cells #[.int .i64 1,.string x.f.x.name,.slice a7 x.f.x.attrs.length c7,.string ⟨#[]⟩,.slice aK kl.length ccK] 41)):=(Below.refl _ W7).alloc (Nat.le_refl _) _
        have hs8 : (W7.alloc (.cells #[.int .i64 1,.string x.f.x.name,.slice a7 x.f.x.attrs.length c7,.string ⟨#[]⟩,.slice aK kl.length ccK] 41)).heap.size = W7.heap.size + 1:=by simp
        have o8:=World.ownsRow_of_alloc5 W7 (w.heap.size + 1) 41 [.int .i64 1,.string x.f.x.name,.slice a7 x.f.x.attrs.length c7,.string ⟨#[]⟩,.slice aK kl.length ccK] (by omega) rfl
        change (W7.alloc (.cells #[.int .i64 1,.string x.f.x.name,.slice a7 x.f.x.attrs.length c7,.string ⟨#[]⟩,.slice aK kl.length ccK] 41)).ownsRow _ _ _ _ _ _ at o8
        have hB8 : Below Wb.heap.size Wb (W7.alloc (.cells #[.int .i64 1,.string x.f.x.name,.slice a7 x.f.x.attrs.length c7,.string ⟨#[]⟩,.slice aK kl.length ccK] 41)):=(hb6.trans (hb7.mono hz6)).trans (hb8.mono (by omega))
        have hNew : Fresh (W7.alloc (.cells #[.int .i64 1,.string x.f.x.name,.slice a7 x.f.x.attrs.length c7,.string ⟨#[]⟩,.slice aK kl.length ccK] 41)) (w.heap.size + 1) (.slice (some ⟨W7.heap.size,0,none⟩) 1 1) [M7.el x.f.x kl]:=by
          have oK8:=own_keep (w':=W7.alloc (.cells #[.int .i64 1,.string x.f.x.name,.slice a7 x.f.x.attrs.length c7,.string ⟨#[]⟩,.slice aK kl.length ccK] 41)) oK.out (fun c hc => (hb8.block c (by have:=(oK.out.lt c hc).2; omega)).trans (hb7.block c (oK.out.lt c hc).2))
          have cK8:=OwnC.keep (w':=W7.alloc (.cells #[.int .i64 1,.string x.f.x.name,.slice a7 x.f.x.attrs.length c7,.string ⟨#[]⟩,.slice aK kl.length ccK] 41)) _ _ _ (fun c hc => (hb8.block c (by have:=(sK.out.2 c (by simp [hc])).2; omega)).trans (hb7.block c (sK.out.2 c (by simp [hc])).2)) cK.out
          have o78:=own_keep (w':=W7.alloc (.cells #[.int .i64 1,.string x.f.x.name,.slice a7 x.f.x.attrs.length c7,.string ⟨#[]⟩,.slice aK kl.length ccK] 41)) o7 (fun c hc => hb8.block c (o7.lt c hc).2)
          refine ⟨_,((Value.slice a7 x.f.x.attrs.length c7).ownBlock.toList ++ ((Value.slice aK kl.length ccK).ownBlock.toList ++ FK)) ++ [],o8,OwnC.cons_iff.2 ⟨_,_,zsK,[],FK,[],rfl,own_base o78 (fun _ _ => Nat.zero_le _),own_base oK8 (fun _ _ => Nat.zero_le _),rfl,cK8,OwnC.nil _⟩,?_⟩
          have s7 : Span W.heap.size W7.heap.size (Value.slice a7 x.f.x.attrs.length c7).ownBlock.toList:=Span.own o7
          rw [List.append_nil,hs8]
          show Span _ _ ((some W7.heap.size).toList ++ _)
          rw [Option.toList_some]
          have hall : ∀ c ∈ (Value.slice a7 x.f.x.attrs.length c7).ownBlock.toList ++ ((Value.slice aK kl.length ccK).ownBlock.toList ++ FK),w.heap.size + 1 ≤ c ∧ c < W7.heap.size:=fun c hc => by
            rcases List.mem_append.1 hc with hc | hc
            · have:=s7.2 c hc; omega
            · have:=sK.out.2 c hc; omega
          refine ⟨?_,fun c hc => ?_⟩
          · rw [List.singleton_append,List.nodup_cons]
            refine ⟨fun hc => by have:=hall _ hc; omega,List.nodup_append.2 ⟨s7.1,sK.out.1,fun c hc d hd e => ?_⟩⟩
            have h1:=(s7.2 c hc).1
            have h2:=(sK.out.2 d hd).2
            omega
          · rcases List.mem_cons.1 hc with rfl | hc
            · omega
            · have:=hall c hc; omega
        replace bL8:=Lib.hid bL8
        replace o7:=Lib.hid o7
        replace o8:=Lib.hid o8
        replace hNew:=Lib.hid hNew
        replace hB8:=Lib.hid hB8
        clear oK cK sK hb8 bL7 hB7
        gi_wp2_with (fail)
        have hF9:=hNew.out.keep (w':=(W7.alloc (.cells #[.int .i64 1,.string x.f.x.name,.slice a7 x.f.x.attrs.length c7,.string ⟨#[]⟩,.slice aK kl.length ccK] 41)).setCell ⟨w.heap.size,0,none⟩ (.slice (some ⟨W7.heap.size,0,none⟩) 1 1)) (fun b hb _ => Below.heap_setCell _ _ _ _ (by show b ≠ w.heap.size; omega)) (by simp)
        have hOut9 : Out (fun b => b = w.heap.size) wd ((W7.alloc (.cells #[.int .i64 1,.string x.f.x.name,.slice a7 x.f.x.attrs.length c7,.string ⟨#[]⟩,.slice aK kl.length ccK] 41)).setCell ⟨w.heap.size,0,none⟩ (.slice (some ⟨W7.heap.size,0,none⟩) 1 1)) :=
          ⟨hB8.out.os.trans hOd.out.os,hB8.out.tape.trans hOd.out.tape,hB8.out.output.trans hOd.out.output,by have:=hB8.out.size; simp; omega,fun b hb hn => (Below.heap_setCell _ _ _ _ hn).trans ((hB8.out.block b (by omega)).trans (hOd.out.block b hb hn))⟩
        refine ⟨(kf_of_below hB8.out).trans ((KeepsOthers.setCell _ _ _).from _),fun b hb => ?_,?_⟩
        · have hbl : b < Wb.heap.size ∧ b ≠ w.heap.size:=by
            rcases hb with hb | hb
            · exact ⟨hFl.out b hb,by have:=hlt.out b hb; omega⟩
            · omega
          exact (Below.heap_setCell _ _ _ _ hbl.2).trans (hB8.out.block b hbl.1)
        · show NI _ _ (bkN (M7.endK tx) ((pre ++ [x]).map (fun x => x.f.x))) _
          rw [List.map_append,List.map_cons,List.map_nil,bkN_snoc,hkl.out]
          exact ⟨_,bL8.out.set _,hF9,(fun e => by cases e),hOut9⟩
    case done =>
      rintro D2 ys Wd hD2 rfl hIp hK
      obtain ⟨vl,bL,hFr,hnil,hOd⟩:=hIp
      obtain ⟨f0,fr,hf0⟩ : ∃ f0 fr,fs = f0 :: fr:=by
        cases hfs0 : fs with
        | nil => rw [hfs0] at hfp; simp at hfp
        | cons a b => exact ⟨a,b,rfl⟩
      have e : bkN (M7.endK tx) (T.reverse.map (fun x => x.f.x)) = [M7.el f0.x s.L]:=by
        have e1 : T.reverse.map (fun x => x.f.x) = (fs.map FV.x).reverse:=by
          rw [List.map_reverse,← hT.out,List.map_map]; rfl
        rw [e1,hL.out,hf0,List.map_cons,bkN_tr]
      rw [e] at hFr
      obtain ⟨zs2,F2,o2,c2,s2⟩:=hFr
      obtain ⟨va,vk,zs,ys2,G1,G2,e1,e2,e3,e4,e5,e6⟩:=OwnC.cons_iff.1 c2
      rcases o2.2 with ⟨_,h0⟩ | ⟨gv,cv,cur,rfl,q1,q2,q3,q4,q5,q6⟩
      · cases h0
      have c4:=(own_cell o2 4 vk (by rw [e1]; rfl)).1
      obtain ⟨ak,ck,rfl⟩:=own_slice e3
      have hRes : Fresh Wd w.heap.size (.slice ak (M7.el f0.x s.L).kids.length ck) s.L:=by
        refine ⟨zs,G1,own_base e3 (fun c hc => ?_),e5,?_⟩
        · have:=s2.2 c (by rw [e4]; simp [hc]); omega
        · have hsub : ∀ c ∈ (Value.slice ak (M7.el f0.x s.L).kids.length ck).ownBlock.toList ++ G1,w.heap.size ≤ c ∧ c < Wd.heap.size:=fun c hc => by
            have:=s2.2 c (by rw [e4]; simp only [List.mem_append] at hc ⊢; right; left; right; exact hc)
            omega
          refine ⟨?_,hsub⟩
          have:=s2.1
          rw [e4] at this
          have h1:=(List.nodup_append.1 this).2.1
          have h2:=(List.nodup_append.1 h1).1
          exact (List.nodup_append.1 h2).2.1
      have hKe:=Lib.hid hK
      have cL:=bL.cell
      have hzd:=hOd.size
      replace hRes:=Lib.hid hRes
      replace hOd:=Lib.hid hOd
      have h01 : (0 : Int) < ((1 : Nat) : Int):=by decide
      clear o2 c2 s2 e1 e2 e3 e4 e5 e6 q1 q2 q3 q4 q5 q6
      gi_wp2
      have hpo : ∀ b,b < D2 → (Wd.putObj D2 (.deferred none)).heap[b]? = Wd.heap[b]?:=fun b hb => by
        by_cases hb2 : b < Wd.heap.size
        · exact (grownBy_putObj' Wd D2 _).block b hb2 (fun e => by cases e; omega)
        · have:=(Array.getElem?_eq_some_iff.1 hKe.out).1; omega
      have hgp:=grownBy_putObj' Wd D2 (.deferred none)
      have hFb : ∀ b,F b → (Wd.putObj D2 (.deferred none)).heap[b]? = wc.heap[b]?:=fun b hb => by
        have hbl:=hlt.out b hb
        exact (hpo b (by omega)).trans ((hOd.out.block b (by omega) (by show b ≠ w.heap.size; omega)).trans (hbd.block b (by omega)))
      have hzp:=hgp.size
      refine ⟨by simp,.inl ⟨_,_,rfl,run_takeDeferred hKe.out,?_⟩⟩
      refine ⟨_,results_tmp rfl _ _ _,_,rfl,hRes.out.cells (fun b ⟨cs,t,hc⟩ => hgp.block b (Array.getElem?_eq_some_iff.1 hc).1 (fun e => by cases e; rw [hc] at hK; cases hK)) hzp,⟨vo,vt,pt,fs,tx,n0,D,hBc.out.keep (fun _ h => h) (fun b hb => by have:=hlt.out b hb; omega) hFb,hI.out⟩,⟨?_,?_,?_,?_,fun b hb hF => ?_⟩⟩
      · exact hgp.os.trans (hOd.out.os.trans (hbd.os.trans hOc.out.os))
      · exact hgp.tape.trans (hOd.out.tape.trans (hbd.tape.trans hOc.out.tape))
      · exact hgp.output.trans (hOd.out.output.trans (hbd.output.trans hOc.out.output))
      · omega
      · exact (hpo b (by omega)).trans ((hOd.out.block b (by omega) (by show b ≠ w.heap.size; omega)).trans ((hbd.block b (by omega)).trans (hOc.out.block b hb hF)))
    case stop =>
      rintro D2 c pre W _ _ h _
      exact h.elim
end Go.Proofs.YteefodibpjgicaaGreat
