/- Texts joined: Bld5, Bld6, RegC. -/
import Derived.Test.YteefodibpjgicaaGreatA14
import Derived.Test.YteefodibpjgicaaGreatA24
import Derived.Test.YteefodibpjgicaaGreatA30
import Derived.Test.YteefodibpjgicaaGreatA32
namespace Go.Proofs.YteefodibpjgicaaGreat
open Go.RowKit Go.Maps
def BS (F : Nat → Prop) (w : World) (g mb : Nat) (s : M7.St) (q : Nat) : Prop:=∃ vo vt pt fs tx n D,Bld F w g mb vo vt pt fs tx n D ∧ BInv fs tx n D s q
def BStep (F : Nat → Prop) (w : World) (g mb : Nat) (s : M7.St) (q : Nat) (e : Ending) (w' : World) : Prop:=e = .returned (.tuple #[]) ∧ BS (grw F w w') w' g mb s q ∧ Out F w w'
def FitT (t : Tok) : Prop:=t.name.size ≤ 1048576 ∧ t.text.size ≤ 1048576 ∧ t.attrs.length ≤ 500000
def tokQ (t : Tok) : Nat:=1 + t.attrs.length + t.text.size
abbrev Tok.val (t : Tok) (va : Value) : Value:=.agg #[.int .i64 t.kind,.string t.name,va,.string t.text]
set_option maxHeartbeats 4000000 in
set_option maxRecDepth 100000 in
theorem bBegun (S : Nat → Prop) (nm : ByteArray) (ats : List Att) (va vk : Value) (w : World) (ha : Row S w 2 va ats.length (cellsA ats)) (hS : ∀ b,S b → b < w.heap.size) (hvk : ∃ a n c,vk = .slice a n c) (hl : ats.length ≤ 1000000) :
    Calls Tryz.prog 212 #[.string nm,va,vk] w fun e w' => ∃ va',e = .returned (.agg #[.int .i64 1,.string nm,va',.string ⟨#[]⟩,vk]) ∧ w'.ownsRow w.heap.size 43 2 va' ats.length (cellsA ats) ∧ Below w.heap.size w w':=by
  obtain ⟨ak,nk,ck,rfl⟩:=hvk
  obtain ⟨aa,ca,rfl⟩:=ha.slice
  have bz:=Box.new w 41 [.int .i64 0,.string ⟨#[]⟩,.slice none 0 0,.string ⟨#[]⟩,.slice none 0 0]
  have hb0 : Below w.heap.size w (w.alloc (.cells #[.int .i64 0,.string ⟨#[]⟩,.slice none 0 0,.string ⟨#[]⟩,.slice none 0 0] 41)):=(Below.refl _ w).alloc (Nat.le_refl _) _
  have hs0 : (w.alloc (.cells #[.int .i64 0,.string ⟨#[]⟩,.slice none 0 0,.string ⟨#[]⟩,.slice none 0 0] 41)).heap.size = w.heap.size + 1:=by simp
  change Box (w.alloc (.cells #[.int .i64 0,.string ⟨#[]⟩,.slice none 0 0,.string ⟨#[]⟩,.slice none 0 0] 41)) _ _ _ at bz
  have ha0:=ha.keep (fun b hb => hb0.block b (hS b hb))
  replace bz:=Lib.hid bz
  go_enter Tryz.func212,Tryz.ntmps212
  go_wp2_with (at_builtin
               refine wpList_spread _ 2 S rfl _ _ 39 43 rfl (w.heap.size + 1) Tryz.underlying39 infoA rfl (by omega) (.slice none 0 0) 0 [] rfl (World.ownsRow_nil _ _ _ _) _ ats.length (cellsA ats) rfl ha0 (cellsA_one _) (by omega) (by omega) (by omega) ?_
               intro v1 w1 hown1 hgrow1
               obtain ⟨a3,cap3,rfl⟩:=own_sliceW hown1
               have bz1:=bz.out.keep (hgrow1.block w.heap.size (by omega) (by simp [Value.ownBlock]))
               have q0:=bz1.cell (i:=0) rfl
               have q1:=bz1.cell (i:=1) rfl
               have q2:=bz1.cell (i:=2) rfl
               have q3:=bz1.cell (i:=3) rfl
               have q4:=bz1.cell (i:=4) rfl
               have fz:=bz1.free)
  have bz2:=boxS5 bz1 (.int .i64 1) (.string nm) (.slice a3 ats.length cap3) (.string ⟨#[]⟩) (.slice ak nk ck)
  have hfar:=farS5 w1 w.heap.size (.int .i64 1) (.string nm) (.slice a3 ats.length cap3) (.string ⟨#[]⟩) (.slice ak nk ck)
  obtain ⟨w2,hw2⟩ : ∃ W,(((((w1.setCell ⟨w.heap.size,0,none⟩ (.int .i64 1)).setCell ⟨w.heap.size,1,none⟩ (.string nm)).setCell ⟨w.heap.size,2,none⟩ (.slice a3 ats.length cap3)).setCell ⟨w.heap.size,3,none⟩ (.string ⟨#[]⟩)).setCell ⟨w.heap.size,4,none⟩ (.slice ak nk ck)) = W:=⟨_,rfl⟩
  rw [hw2] at bz2 hfar ⊢
  clear hw2 q0 q1 q2 q3 q4 fz
  have q0:=bz2.cell (i:=0) rfl
  have q1:=bz2.cell (i:=1) rfl
  have q2:=bz2.cell (i:=2) rfl
  have q3:=bz2.cell (i:=3) rfl
  have q4:=bz2.cell (i:=4) rfl
  have hown2 : w2.ownsRow w.heap.size 43 2 (.slice a3 ats.length cap3) ats.length (cellsA ats):=by
    have e : (0 : Nat) + ats.length = ats.length:=Nat.zero_add _
    rw [e,List.nil_append] at hown1
    refine own_base (own_keepW hown1 (fun c hc => hfar.block c ?_)) (fun c hc => ?_)
    · have:=(hown1.lt c hc).1; omega
    · have:=(hown1.lt c hc).1; omega
  have hz1:=hgrow1.size
  refine bodyPost_ret (v:=.agg #[.int .i64 1,.string nm,.slice a3 ats.length cap3,.string ⟨#[]⟩,.slice ak nk ck]) (by simp [results,Tryz.results212,go_sem,q0,q1,q2,q3,q4]) rfl ⟨_,rfl,hown2,?_⟩
  exact ⟨hfar.os.trans (hgrow1.os.trans hb0.os),hfar.tape.trans (hgrow1.tape.trans hb0.tape),hfar.output.trans (hgrow1.output.trans hb0.output),by have:=hfar.size; omega,fun b hb => (hfar.block b (by omega)).trans ((hgrow1.block b (by omega) (by simp [Value.ownBlock])).trans (hb0.block b hb))⟩
theorem remark_weight (t : Tok) : M3.weight [M7.coT t] ≤ tokQ t:=by
  rw [M3.weight_cons,M3.weight_nil]
  show 1 + 0 + M3.weight [] + 0 ≤ _
  rw [M3.weight_nil]; unfold tokQ; omega
set_option maxHeartbeats 4000000 in
set_option maxRecDepth 100000 in
theorem bRemark {F : Nat → Prop} {w : World} {g mb q : Nat} {s : M7.St} {t : Tok} {va : Value} (h : BS F w g mb s q) (hq : q ≤ 400000) (hva : ∃ a n c,va = .slice a n c) :
    Calls Tryz.prog 216 #[.pointer (some ⟨g,0,none⟩),t.val va] w (BStep F w g mb ⟨M7.putN s.d (M7.coT t) s.L,s.d⟩ (q + tokQ t)):=by
  obtain ⟨av,nv,cv,rfl⟩:=hva
  obtain ⟨vo,vt,pt,fs,tx,n,D,hB,hI⟩:=h
  obtain ⟨A,f,rfl⟩:=hI.snoc
  have hkl:=hI.kids_le f (by simp)
  have hfs:=hI.fsq
  simp at hfs
  have hb0 : Below w.heap.size w (w.alloc (.cells #[.int .i64 t.kind,.string t.name,.slice av nv cv,.string t.text] 87)):=(Below.refl _ w).alloc (Nat.le_refl _) _
  have hC:=Lib.hid (bAdd (x:=M7.coT t) (va:=.slice none 0 0) (vk:=.slice none 0 0) (hB.below hb0) (by omega) (by omega) ⟨Row.nil _ _ _,RepN.nil _ _⟩)
  replace hI:=Lib.hid hI
  have hlt:=hB.lt
  replace hlt:=Lib.hid hlt
  replace hb0:=Lib.hid hb0
  clear hB
  go_enter Tryz.func216,Tryz.ntmps216
  go_wp2_with fail
  refine hC.out.mono ?_
  rintro e w1 ⟨rfl,vt1,pt1,f1,hx,hn,s1⟩
  have s2:=s1.start hb0.out hlt.out
  have hI2:=hI.out.add hx hn (by rfl) (remark_weight t) (by unfold tokQ; omega)
  replace s2:=Lib.hid s2
  replace hI2:=Lib.hid hI2
  clear s1 hx hn
  go_wp2_with fail
  go_end0
  exact ⟨rfl,⟨_,_,_,_,_,_,_,s2.out.1,hI2.out⟩,s2.out.2.1⟩
set_option maxHeartbeats 4000000 in
set_option maxRecDepth 100000 in
theorem bChars {F : Nat → Prop} {w : World} {g mb q : Nat} {s : M7.St} {t : Tok} {va : Value} (h : BS F w g mb s q) (hq : q ≤ 400000) (ht : FitT t) (hva : ∃ a n c,va = .slice a n c) :
    Calls Tryz.prog 215 #[.pointer (some ⟨g,0,none⟩),t.val va] w (BStep F w g mb ⟨M7.putN s.d (M7.txT t) s.L,s.d⟩ (q + tokQ t)):=by
  obtain ⟨av,nv,cv,rfl⟩:=hva
  obtain ⟨vo,vt,pt,fs,tx,n,D,hB,hI⟩:=h
  have htq:=hI.tq
  have hts:=ht.2.1
  have hb0 : Below w.heap.size w (w.alloc (.cells #[.int .i64 t.kind,.string t.name,.slice av nv cv,.string t.text] 87)).drew:=((Below.refl _ w).alloc (Nat.le_refl _) _).drew
  have hB0:=hB.below hb0
  have hC:=Lib.hid (bxWrite g _ _ _ _ tx t.text _ hB0.box hB0.ptr hB0.text hB0.text_ne (by omega))
  replace hI:=Lib.hid hI
  have hlt:=hB.lt
  replace hlt:=Lib.hid hlt
  replace hb0:=Lib.hid hb0
  replace hB0:=Lib.hid hB0
  clear hB
  go_enter Tryz.func215,Tryz.ntmps215
  go_wp2_with fail
  go_region_law
    (first
      | (go_simp; go_at_call 106; refine hC.out.mono ?_; rintro e w1 ⟨rfl,v',hbx,htx,hat,hT⟩; have s1:=hB0.out.txt hbx (.inr rfl) htx hat hT; replace s1:=Lib.hid s1; clear hbx htx hat hT))
  all_goals
    have s2:=BSt.start hb0.out hlt.out s1.out
    have hI2:=hI.out.chars (t:=t) (c:=tokQ t) (by unfold tokQ; omega)
    replace s2:=Lib.hid s2
    replace hI2:=Lib.hid hI2
    clear s1
    go_wp2_with fail
    go_end0
    exact ⟨rfl,⟨_,_,_,_,_,_,_,s2.out.1,hI2.out⟩,s2.out.2.1⟩
end Go.Proofs.YteefodibpjgicaaGreat

namespace Go.Proofs.YteefodibpjgicaaGreat
open Go.RowKit Go.Maps
def lenOf (w : World) (g : Nat) : Nat:=match w.cell? ⟨g,0,none⟩ with | some (.slice _ n _) => n | _ => 0
theorem lenOf_eq {w : World} {g n cap : Nat} {a : Option Addr} (h : w.cell? ⟨g,0,none⟩ = some (.slice a n cap)) : lenOf w g = n:=by unfold lenOf; rw [h]
structure Shutting (F : Nat → Prop) (w : World) (g mb : Nat) (s : M7.St) (o : List ByteArray) (q : Nat) (W : World) (vo vt pt : Value) (fs : List FV) (tx : List UInt8) (n : Nat) (D : DataW Unit) (d : Nat) : Prop where
  bld : Bld (grw F w W) W g mb vo vt pt fs tx n D
  inv : BInv fs tx n D ⟨s.L,d⟩ q
  out : Out F w W
  pre : ∃ p,o = namesW fs ++ p
theorem Shutting.next {F : Nat → Prop} {w W W' : World} {g mb : Nat} {s : M7.St} {o : List ByteArray} {q : Nat} {vo vt pt vo' vt' pt' : Value} {A : List FV} {p f p' : FV} {tx : List UInt8} {n n' : Nat} {D : DataW Unit} {d : Nat} (h : Shutting F w g mb s o q W vo vt pt ((A ++ [p]) ++ [f]) tx n D d)
    (hx : p'.x = M7.wk p.x (p.x.kids ++ [M7.wk f.x (f.x.kids ++ M7.endK tx)])) (hn : p'.nx = p.nx) (hn' : n' ≤ n + 1) (hs : BSt (grw F w W) W g mb vo vt ((A ++ [p]) ++ [f]) W' vo' vt' pt' (A ++ [p']) [] n' (shutD f D)) : Shutting F w g mb s o q W' vo' vt' pt' (A ++ [p']) [] n' (shutD f D) (d - 1):=by
  obtain ⟨h1,h2⟩:=h.inv.shut h.bld.map.isMap hx hn hn'
  obtain ⟨pp,hp⟩:=h.pre
  exact ⟨hs.1.grw2 h.out.size hs.2.1.size,h1,h.out.trans hs.2.1,⟨f.x.name :: pp,by rw [hp,h2]; simp⟩⟩
theorem Shutting.bounds {F : Nat → Prop} {w W : World} {g mb : Nat} {s : M7.St} {o : List ByteArray} {q : Nat} {vo vt pt : Value} {A : List FV} {p f : FV} {tx : List UInt8} {n : Nat} {D : DataW Unit} {d : Nat} (h : Shutting F w g mb s o q W vo vt pt ((A ++ [p]) ++ [f]) tx n D d) (hq : q ≤ 400000) :
    A.length ≤ 900000 ∧ f.x.kids.length ≤ 900000 ∧ p.x.kids.length ≤ 900000 ∧ f.x.name.size ≤ 1073741824 ∧ f.nx ≤ 1000000 ∧ n ≤ 1000000:=by
  have h1:=h.inv.fsq
  have h2:=h.inv.kids_le f (by simp)
  have h3:=h.inv.kids_le p (by simp)
  have h4:=(h.inv.el A.length f h.inv.at_last).2.2
  have h5:=h.inv.nxt A.length f h.inv.at_last
  have h6:=M7.plc_le (namesW ((A ++ [p]) ++ [f])) f.x.name A.length
  have h7:=h.inv.nq
  simp at h1 h7
  exact ⟨by omega,by omega,by omega,by omega,by omega,by omega⟩
theorem two_of {fs : List FV} (h : 2 ≤ fs.length) : ∃ A p f,fs = (A ++ [p]) ++ [f]:=by
  rcases List.eq_nil_or_concat fs with rfl | ⟨B,f,rfl⟩
  · simp at h
  · rcases List.eq_nil_or_concat B with rfl | ⟨A,p,rfl⟩
    · simp at h
    · exact ⟨A,p,f,by simp⟩
set_option maxHeartbeats 8000000 in
set_option maxRecDepth 100000 in
theorem bEnd {F : Nat → Prop} {w : World} {g mb q : Nat} {s : M7.St} {t : Tok} {va : Value} (h : BS F w g mb s q) (hq : q ≤ 400000) (ht : FitT t) (hva : ∃ a n c,va = .slice a n c) :
    Calls Tryz.prog 214 #[.pointer (some ⟨g,0,none⟩),t.val va] w (BStep F w g mb (match M7.endAt (M7.openN s.d s.L) t.name s.d with | some i => ⟨s.L,i⟩ | none => s) q):=by
  obtain ⟨av,nv,cv,rfl⟩:=hva
  obtain ⟨vo,vt,pt,fs,tx,n,D,hB,hI⟩:=h
  have hnames:=hI.names
  rw [hnames,M7.plc_end]
  obtain ⟨P,hP⟩ : ∃ P,P = M7.plc (namesW fs) t.name s.d:=⟨_,rfl⟩
  obtain ⟨hm1,hm2⟩:=hI.map t.name
  rw [← hP] at hm1 hm2 ⊢
  generalize hS : (match (if P = 0 then (none : Option Nat) else some (P - 1)) with | some i => (⟨s.L,i⟩ : M7.St) | none => s) = s'
  replace hS:=Lib.hid hS
  have hPle : P ≤ s.d:=by rw [hP]; exact M7.plc_le _ _ _
  have hlen:=hI.len
  have hfsq:=hI.fsq
  have hts:=ht.1
  have bz:=Box.new w 87 [.int .i64 t.kind,.string t.name,.slice av nv cv,.string t.text]
  have hb0 : Below w.heap.size w (w.alloc (.cells #[.int .i64 t.kind,.string t.name,.slice av nv cv,.string t.text] 87)).drew:=((Below.refl _ w).alloc (Nat.le_refl _) _).drew
  change Box (w.alloc (.cells #[.int .i64 t.kind,.string t.name,.slice av nv cv,.string t.text] 87)).drew _ _ _ at bz
  have hB0:=hB.below hb0
  have hkey : keyOf Tryz.prog 9 (.string t.name) = some (keyN t.name):=WideMaps.keyOf_string_mk Tryz.underlying9 (s:=t.name) (by unfold maxLen; omega)
  have hrun:=look_ok_int (P:=Tryz.prog) hB0.map keySS Tryz.underlying191 Tryz.underlying3 (Tryz.zeroValue3 _) hkey hm2
  rw [hm1] at hrun
  have k3:=hB0.box.cell (i:=3) rfl
  have z1:=bz.cell (i:=1) rfl
  have hsh : Shutting F w g mb s (namesW fs) q (w.alloc (.cells #[.int .i64 t.kind,.string t.name,.slice av nv cv,.string t.text] 87)).drew vo vt pt fs tx n D s.d :=
    ⟨hB.grow hb0,hI,⟨hb0.os,hb0.tape,hb0.output,hb0.size,fun b hb _ => hb0.block b hb⟩,⟨[],by simp⟩⟩
  replace hsh:=Lib.hid hsh
  replace hI:=Lib.hid hI
  replace hB0:=Lib.hid hB0
  replace hP:=Lib.hid hP
  replace bz:=Lib.hid bz
  clear hB hnames hm1 hm2
  go_enter Tryz.func214,Tryz.ntmps214
  go_wp2_with fail
  go_region
  clear hrun k3 z1
  obtain ⟨w0,hw0⟩ : ∃ W,(w.alloc (.cells #[.int .i64 t.kind,.string t.name,.slice av nv cv,.string t.text] 87)).drew = W:=⟨_,rfl⟩
  rw [hw0] at hsh ⊢
  clear hb0 bz hB0
  by_cases h0 : P = 0
  · have hd0 : (!decide (P = 0)) = false:=by simp [h0]
    have hs' : s' = s:=by rw [← hS.out,if_pos h0]
    rw [hd0]
    go_wp2_with fail
    go_loopw [16] (fun u16 wr => wr = w0) (fun u16 wr => 0)
    case atStart => exact rfl
    case round =>
      subst hrel
      go_wp2_with fail
      go_end0
      rw [hs']
      exact ⟨rfl,⟨_,_,_,_,_,_,_,hsh.out.bld,hsh.out.inv⟩,hsh.out.out⟩
  · have hd0 : (!decide (P = 0)) = true:=by simp [h0]
    have hs' : s' = ⟨s.L,P - 1⟩:=by rw [← hS.out,if_neg h0]
    rw [hd0]
    have h1P : (1 : Int) ≤ (P : Int):=by omega
    go_wp2_with fail
    go_loopw [16] (fun u16 wr => ∃ vo vt pt fs' tx n D d,Shutting F w g mb s (namesW fs) q wr vo vt pt fs' tx n D d ∧ P ≤ fs'.length) (fun u16 wr => lenOf wr g)
    case atStart => exact ⟨_,_,_,_,_,_,_,_,hsh.out,by omega⟩
    case round =>
      obtain ⟨vo1,vt1,pt1,fs1,tx1,n1,D1,d1,hk,hle⟩:=hrel
      obtain ⟨go,cap,hvo,hcl,hcm,-⟩:=hk.bld.open_slice hk.inv.ne
      have k0:=hk.bld.box.cell (i:=0) rfl
      rw [hvo] at k0
      by_cases hlt : P < fs1.length
      · obtain ⟨A,p,f,rfl⟩:=two_of (fs:=fs1) (by omega)
        obtain ⟨b1,b2,b3,b4,b5,b6⟩:=hk.bounds hq
        have hC:=Lib.hid (bShut hk.bld b1 b2 b3 b4 b5 b6)
        have hlI : (P : Int) < (A.length : Int) + 2:=by simp at hlt; omega
        have hlD : decide ((P : Int) < (A.length : Int) + 2) = true:=decide_eq_true hlI
        replace hk:=Lib.hid hk
        go_wp2_with fail
        refine hC.out.mono ?_
        rintro e w1 ⟨rfl,vo2,vt2,pt2,p',n',hx,hn,hn',hst⟩
        have hk2:=hk.out.next hx hn hn' hst
        have hl2 : lenOf w1 g < lenOf wr g:=by
          obtain ⟨go2,cap2,hvo2,_⟩:=hk2.bld.open_slice (by simp)
          have k02:=hk2.bld.box.cell (i:=0) rfl
          rw [hvo2] at k02
          rw [lenOf_eq k02,lenOf_eq k0]
          simp
        replace hk2:=Lib.hid hk2
        clear hst hx hn hk k0
        go_wp2_with fail
        go_roundw
        case rel => exact ⟨_,_,_,_,_,_,_,_,hk2.out,by simp at hlt ⊢; omega⟩
        case measure => exact hl2
      · have hlI : ¬ ((P : Int) < ((fs1.length : Nat) : Int)):=by omega
        have hld:=hk.inv.len
        have he : (⟨s.L,d1⟩ : M7.St) = s':=by
          rw [hs']
          congr 1
          show d1 = P - 1
          have : d1 + 1 = fs1.length:=hld
          omega
        have hf : BStep F w g mb s' q (.returned (.tuple #[])) wr:=⟨rfl,⟨_,_,_,_,_,_,_,hk.bld,he ▸ hk.inv⟩,hk.out⟩
        replace hf:=Lib.hid hf
        clear hk
        go_wp2_with fail
        go_end0
        have hg:=hf.out
        rw [hs'] at hg
        exact hg
end Go.Proofs.YteefodibpjgicaaGreat

namespace Go.Proofs.YteefodibpjgicaaGreat
theorem waits_none {md : Region.Mode} {ops : Array Oper} {i j : Nat} (h : ops.size ≤ i) : Region.waitsFor md ops i j = false:=by
  unfold Region.waitsFor
  rw [Array.getElem?_eq_none h]
theorem wp_region_knownC {id n : Nat} {P : Program} {ops : Array Oper} {Q : Exit → Act → World → Prop} {a : Act} {w : World} (Vs : List (Option Value)) (A : (Nat → Value) → Act) (I : (Nat → Bool) → (Nat → Value) → World → Prop) (t0 : Nat → Value)
    (hm : P.follows .mixedOrders = true) (hn : ops.size = n) (hl : Vs.length = n) (hord : ordB .any ops = true) (ha : a = A t0) (h0 : I (fun i => decide (n ≤ i)) t0 w.drew)
    (hstep : ∀ i,i < n → ∀ (f : Nat → Bool) (t : Nat → Value) (W : World),f i = false → (∀ j,Region.waitsFor .any ops i j = true → f j = true) → (∀ i j,Region.waitsFor .any ops i j = true → f i = true → f j = true) → Kn Vs f t → I f t W →
      wpOp P ops Q i (fun a' W' => ∃ v,a' = A (updT t i v) ∧ Kn Vs (updF f i) (updT t i v) ∧ I (updF f i) (updT t i v) W') (A t) W)
    (hdone : ∀ (f : Nat → Bool) (t : Nat → Value) (W : World),(∀ i,i < n → f i = true) → Kn Vs f t → I f t W → Q .normal (A t) W) :
    (Code.region id ops true).wp P Q a w:=by
  refine wp_region_known Vs A (fun f t W => I f t W ∧ ∀ i j,Region.waitsFor .any ops i j = true → f i = true → f j = true) t0 hm hn hl hord ha ⟨h0,?_⟩ ?_ ?_
  · intro i j hw hi
    have hi : n ≤ i:=by simpa using hi
    rw [waits_none (by omega)] at hw
    cases hw
  · intro i hi f t W hfi hwt hk hI
    refine wpOp_mono ?_ (hstep i hi f t W hfi hwt hI.2 hk hI.1)
    rintro a' W' ⟨v,h1,h2,h3⟩
    refine ⟨v,h1,h2,h3,fun k j hw hk' => ?_⟩
    by_cases e : j = i
    · rw [e]; simp [updF]
    · rw [updF_ne _ e]
      by_cases e2 : k = i
      · rw [e2] at hw; exact hwt j hw
      · rw [updF_ne _ e2] at hk'; exact hI.2 k j hw hk'
  · intro f t W hall hk hI
    exact hdone f t W hall hk hI.1
def PuI (bs ap st : Nat) (Wa Wb Wc Wd : World) (f : Nat → Bool) (W : World) : Prop :=
  (f bs = false → W = Wa) ∧ (f bs = true → f ap = false → W = Wb) ∧ (f ap = true → f st = false → W = Wc) ∧ (f st = true → W = Wd)
section
variable {bs ap st : Nat} {Wa Wb Wc Wd W : World} {f : Nat → Bool}
theorem PuI.start (n : Nat) (h1 : bs < n) (h2 : ap < n) (h3 : st < n) : PuI bs ap st Wa Wb Wc Wd (fun i => decide (n ≤ i)) Wa:=by
  refine ⟨fun _ => rfl,fun h => ?_,fun h => ?_,fun h => ?_⟩ <;> (simp at h; omega)
theorem PuI.early (h : PuI bs ap st Wa Wb Wc Wd f W) (ha : f ap = false) : W = Wa ∨ W = Wb:=by
  cases hb : f bs
  · exact .inl (h.1 hb)
  · exact .inr (h.2.1 hb ha)
theorem PuI.same (h : PuI bs ap st Wa Wb Wc Wd f W) (i : Nat) (h1 : bs ≠ i) (h2 : ap ≠ i) (h3 : st ≠ i) : PuI bs ap st Wa Wb Wc Wd (updF f i) W:=by
  unfold PuI
  rw [updF_ne _ h1,updF_ne _ h2,updF_ne _ h3]
  exact h
theorem updF_self (f : Nat → Bool) (i : Nat) : updF f i i = true:=by simp [updF]
theorem PuI.mk1 (hba : ap ≠ bs) (hbs : st ≠ bs) (ha : f ap = false) (hs : f st = false) : PuI bs ap st Wa Wb Wc Wd (updF f bs) Wb:=by
  unfold PuI
  rw [updF_self,updF_ne _ hba,updF_ne _ hbs,ha,hs]
  exact ⟨(fun h => by cases h),fun _ _ => rfl,(fun h => by cases h),(fun h => by cases h)⟩
theorem PuI.app (hba : bs ≠ ap) (hbs : st ≠ ap) (hb : f bs = true) (hs : f st = false) : PuI bs ap st Wa Wb Wc Wd (updF f ap) Wc:=by
  unfold PuI
  rw [updF_self,updF_ne _ hba,updF_ne _ hbs,hb,hs]
  exact ⟨(fun h => by cases h),(fun _ h => by cases h),fun _ _ => rfl,(fun h => by cases h)⟩
theorem PuI.put (hba : bs ≠ st) (hbs : ap ≠ st) (hb : f bs = true) (ha : f ap = true) : PuI bs ap st Wa Wb Wc Wd (updF f st) Wd:=by
  unfold PuI
  rw [updF_self,updF_ne _ hba,updF_ne _ hbs,hb,ha]
  exact ⟨(fun h => by cases h),(fun _ h => by cases h),(fun _ h => by cases h),fun _ => rfl⟩
end
theorem wp_append_run {P : Program} {o : Oper} {a : Act} {K : Act → World → Prop} {Q : Exit → Act → World → Prop} {w w' : World} (s x : Operand) (t : TypeId) (ho : o.op = .call { callee:=.builtin .append,args:=#[s,x],argTypes:=#[t,t] })
    (v xv r : Value) (hs : a.eval s = v) (hx : a.eval x = xv) (hr : (Builtin.append_ #[t,t] o.type #[v,xv]).run P w = .ok r w') (h : K (a.put o.dst r) w') : Oper.wp P o a w K Q:=by
  unfold Oper.wp execOp
  simp only [ho,resolve,invoke,builtin,Sem.run_bind,Sem.run_pure,Result.andThen_ok,List.map_toArray,List.map_cons,List.map_nil,hs,hx,hr]
  exact h
end Go.Proofs.YteefodibpjgicaaGreat
