/- Texts joined: Bld7. -/
import Derived.Test.YteefodibpjgicaaGreatA33
namespace Go.Proofs.YteefodibpjgicaaGreat
open Go.RowKit Go.Maps
def Closing (t : Tok) (s : M7.St) (o : List ByteArray) (fs : List FV) (d : Nat) : Prop:=M7.closeAt o t.name s.d = M7.closeAt (namesW fs) t.name d
theorem Closing.next {t : Tok} {s : M7.St} {o : List ByteArray} {A : List FV} {p f p' : FV} {d : Nat} (h : Closing t s o ((A ++ [p]) ++ [f]) d) (hd : d = A.length + 1) (hn : namesW ((A ++ [p]) ++ [f]) = namesW (A ++ [p']) ++ [f.x.name]) (hc : M6.closesB f.x.name.data.toList t.name.data.toList = true) : Closing t s o (A ++ [p']) (d - 1):=by
  have hl : (namesW (A ++ [p'])).length = A.length:=by rw [namesW_len]; simp
  unfold Closing at h ⊢
  rw [h,hn,hd,← hl,M7.close_snoc,if_pos hc]
  rfl
theorem Closing.stop {t : Tok} {s : M7.St} {o : List ByteArray} {A : List FV} {p f : FV} {d : Nat} (h : Closing t s o ((A ++ [p]) ++ [f]) d) (hd : d = A.length + 1) (hc : M6.closesB f.x.name.data.toList t.name.data.toList = false) : M7.closeAt o t.name s.d = d:=by
  have hl : (namesW (A ++ [p])).length = A.length:=by rw [namesW_len]; simp
  unfold Closing at h
  rw [h,namesW_snoc (by simp),hd,← hl,M7.close_snoc,if_neg (by rw [hc]; decide)]
def closedS (s : M7.St) (t : Tok) : M7.St:=⟨s.L,M7.closeAt (M7.openN s.d s.L) t.name s.d⟩
theorem look_int {P : Program} {w : World} {b n : Nat} {D : DataW Unit} {t k e : TypeId} {q : IntKind} (h : w.ownsMap P k (plainElem P e) b n D) (K : Keyed P k) (ht : P.underlying t = some (.map k e)) (he : P.underlying e = some (.int q))
    (hz : (zeroValue e).run P w = .ok (.int q 0) w) {key : Value} {kl : Lit} (hkey : keyOf P k key = some kl) {c : Int} (hc : D.atKey kl (.lit (.int q 0)) = .lit (.int q c)) :
    (Instr.lookup t (.map (some b)) key false).run P w = .ok (.int q c) w:=by
  have hw0 : (Lit.int q 0).wf = true:=by cases q <;> decide
  obtain ⟨v,ps,hrun,hv⟩:=h.lookup K ht hz (plainElem_int he hw0) hkey
  obtain ⟨c',rfl,h2,_⟩:=plainElem_int_inv he hv
  simp only [Prod.mk.injEq] at h2
  rw [h2.1] at hc
  cases hc
  exact hrun
theorem Shutting.below {F : Nat → Prop} {w W W' : World} {g mb : Nat} {s : M7.St} {o : List ByteArray} {q : Nat} {vo vt pt : Value} {fs : List FV} {tx : List UInt8} {n : Nat} {D : DataW Unit} {d : Nat} (h : Shutting F w g mb s o q W vo vt pt fs tx n D d) (hb : Below W.heap.size W W') : Shutting F w g mb s o q W' vo vt pt fs tx n D d :=
  ⟨(h.bld.grow hb).grw2 h.out.size hb.size,h.inv,h.out.below hb,h.pre⟩
def Reach (F : Nat → Prop) (w W : World) (g mb : Nat) (vo vt pt : Value) (fs : List FV) (tx : List UInt8) (n : Nat) (D : DataW Unit) : Prop:=Bld (grw F w W) W g mb vo vt pt fs tx n D ∧ Out F w W
theorem Reach.step {F : Nat → Prop} {w W W1 : World} {g mb : Nat} {vo vt pt vo1 vt1 pt1 : Value} {fs fs1 : List FV} {tx tx1 : List UInt8} {n n1 : Nat} {D D1 : DataW Unit} (h : Reach F w W g mb vo vt pt fs tx n D) (k : BSt (grw F w W) W g mb vo vt fs W1 vo1 vt1 pt1 fs1 tx1 n1 D1) : Reach F w W1 g mb vo1 vt1 pt1 fs1 tx1 n1 D1 :=
  ⟨k.1.grw2 h.2.size k.2.1.size,h.2.trans k.2.1⟩
theorem Reach.start {F : Nat → Prop} {w w0 W : World} {g mb : Nat} {vo vt pt : Value} {fs : List FV} {tx : List UInt8} {n : Nat} {D : DataW Unit} (h : Reach F w0 W g mb vo vt pt fs tx n D) (hb : Below w.heap.size w w0) (hlt : ∀ b,F b → b < w.heap.size) : Reach F w W g mb vo vt pt fs tx n D:=by
  have hz:=hb.size
  have hz1:=h.2.size
  exact ⟨h.1.keep (fun b hb => hb.elim .inl (fun e => .inr ⟨by omega,e.2⟩)) (grw_lt hlt (by omega)) (fun _ _ => rfl),⟨h.2.os.trans hb.os,h.2.tape.trans hb.tape,h.2.output.trans hb.output,by omega,fun b hb' hF => (h.2.block b (by omega) hF).trans (hb.block b hb')⟩⟩
theorem idle_grw {F : Nat → Prop} {w w1 w2 : World} {g mb : Nat} {vo vt : Value} {fs : List FV} {x : Nd} {va vk : Value} {W : World} (h : RepV (idleB (grw (grw F w w1) w1 w2) g mb vo vt fs) W x va vk) (h1 : w.heap.size ≤ w1.heap.size) (h2 : w1.heap.size ≤ w2.heap.size) : RepV (idleB (grw F w w2) g mb vo vt fs) W x va vk :=
  RepV.mono h (fun b hb => ⟨(grw_grw h1 h2 b).1 hb.1,hb.2⟩)
theorem infoE : (Tryz.prog.info? 189).map (fun i => (i.zero,i.size,i.bytes)) = some (some (.agg #[.int .i64 0,.string ⟨#[]⟩,.slice none 0 0,.string ⟨#[]⟩,.slice none 0 0,.int .i64 0]),6,96):=by kernel_rfl
set_option maxHeartbeats 8000000 in
set_option maxRecDepth 100000 in
theorem bBegin {F : Nat → Prop} {w : World} {g mb q : Nat} {s : M7.St} {tk : Tok} {va : Value} {S : Nat → Prop} (h : BS F w g mb s q) (hq : q ≤ 400000) (ht : FitT tk) (hS : ∀ b,S b → b < w.heap.size ∧ ¬ F b) (hat : Row S w 2 va tk.attrs.length (cellsA tk.attrs)) :
    Calls Tryz.prog 213 #[.pointer (some ⟨g,0,none⟩),tk.val va] w (BStep F w g mb ⟨M7.putN (closedS s tk).d (M7.elT tk) s.L,if M3.voidB tk.name.data.toList then (closedS s tk).d else (closedS s tk).d + 1⟩ (q + tokQ tk)):=by
  obtain ⟨av,cv,rfl⟩:=hat.slice
  obtain ⟨vo,vt,pt,fs,tx,n,D,hB,hI⟩:=h
  have hnames:=hI.names
  obtain ⟨s1,hs1⟩ : ∃ x,Hid (x = closedS s tk):=⟨_,rfl⟩
  rw [← hs1.out]
  obtain ⟨s2,hs2⟩ : ∃ x,Hid (x = (⟨M7.putN s1.d (M7.elT tk) s.L,if M3.voidB tk.name.data.toList then s1.d else s1.d + 1⟩ : M7.St)):=⟨_,rfl⟩
  rw [← hs2.out]
  have hts:=ht.1
  have hta:=ht.2.2
  have bz:=Box.new w 87 [.int .i64 tk.kind,.string tk.name,.slice av tk.attrs.length cv,.string tk.text]
  have hb0 : Below w.heap.size w (w.alloc (.cells #[.int .i64 tk.kind,.string tk.name,.slice av tk.attrs.length cv,.string tk.text] 87)):=(Below.refl _ w).alloc (Nat.le_refl _) _
  change Box (w.alloc (.cells #[.int .i64 tk.kind,.string tk.name,.slice av tk.attrs.length cv,.string tk.text] 87)) _ _ _ at bz
  have hsz : (w.alloc (.cells #[.int .i64 tk.kind,.string tk.name,.slice av tk.attrs.length cv,.string tk.text] 87)).heap.size = w.heap.size + 1:=by simp
  have hlt:=hB.lt
  have hsh : Shutting F (w.alloc (.cells #[.int .i64 tk.kind,.string tk.name,.slice av tk.attrs.length cv,.string tk.text] 87)) g mb s (namesW fs) q (w.alloc (.cells #[.int .i64 tk.kind,.string tk.name,.slice av tk.attrs.length cv,.string tk.text] 87)) vo vt pt fs tx n D s.d :=
    ⟨(hB.below hb0).same_grw.1,hI,Out.refl _ _,⟨[],by simp⟩⟩
  have hcl : Closing tk s (namesW fs) fs s.d:=rfl
  have hS1 : s1 = ⟨s.L,M7.closeAt (namesW fs) tk.name s.d⟩:=by rw [hs1.out]; unfold closedS; rw [hnames]
  have hat0:=hat.keep (w':=w.alloc (.cells #[.int .i64 tk.kind,.string tk.name,.slice av tk.attrs.length cv,.string tk.text] 87)) (fun b hb => hb0.block b (hS b hb).1)
  replace hsh:=Lib.hid hsh
  replace hcl:=Lib.hid hcl
  replace hS1:=Lib.hid hS1
  replace bz:=Lib.hid bz
  replace hS:=Lib.hid hS
  replace hat0:=Lib.hid hat0
  replace hlt:=Lib.hid hlt
  clear hI hB hnames hs1 hat
  go_enter Tryz.func213,Tryz.ntmps213
  go_wp2_with fail
  obtain ⟨w0,hw0⟩ : ∃ W,(w.alloc (.cells #[.int .i64 tk.kind,.string tk.name,.slice av tk.attrs.length cv,.string tk.text] 87)) = W:=⟨_,rfl⟩
  rw [hw0] at hsh bz hb0 hat0 hsz ⊢
  clear hw0
  go_loopw [5] (fun u5 wr => ∃ vo vt pt fs' tx n D d,Shutting F w0 g mb s (namesW fs) q wr vo vt pt fs' tx n D d ∧ Closing tk s (namesW fs) fs' d) (fun u5 wr => lenOf wr g)
  case atStart => exact ⟨_,_,_,_,_,_,_,_,hsh.out,hcl.out⟩
  case round =>
    obtain ⟨vo1,vt1,pt1,fs1,tx1,n1,D1,d1,hk,hc⟩:=hrel
    obtain ⟨go,cap,hvo,hcl2,hcm2,-⟩:=hk.bld.open_slice hk.inv.ne
    have k0:=hk.bld.box.cell (i:=0) rfl
    rw [hvo] at k0
    have bzr:=bz.out.keep (w':=wr) (hk.out.block w.heap.size (by omega) (fun e => by have:=hlt.out _ e; omega))
    have z1:=bzr.cell (i:=1) rfl
    have hwr:=hk.out.size
    clear hsh hcl
    obtain ⟨A,f,rfl⟩:=hk.inv.snoc
    have hll : (A ++ [f]).length = A.length + 1:=by simp
    have hvo1 : vo1 = .slice (some ⟨go,0,none⟩) (A.length + 1) cap:=by rw [hvo]; simp
    rw [hll] at k0 hvo
    have hd1 : d1 = A.length:=hk.inv.d
    have hfq:=hk.inv.fsq
    rw [hll] at hfq
    obtain ⟨c1,-⟩:=hk.bld.last_cell hvo1 1 (.string f.x.name) (by decide) rfl
    have hfn : A ≠ [] → f.x.name.size ≤ 1048576:=fun hA => by
      obtain ⟨j,hj⟩ : ∃ j,A.length = j + 1:=⟨A.length - 1,by have:=List.length_pos_iff.2 hA; omega⟩
      exact (hk.inv.el j f (by rw [← hj,List.getElem?_append_right (Nat.le_refl _),Nat.sub_self]; rfl)).2.2
    have hs1 : (A = [] ∨ M6.closesB f.x.name.data.toList tk.name.data.toList = false) → s1 = ⟨s.L,d1⟩:=fun ho => by
      rw [hS1.out]
      congr 1
      rcases ho with rfl | ho
      · have h:=hc
        unfold Closing at h
        rw [h,hd1]; rfl
      · rcases List.eq_nil_or_concat A with rfl | ⟨A',p,rfl⟩
        · have h:=hc
          unfold Closing at h
          rw [h,hd1]; rfl
        · rw [List.concat_eq_append] at hc hd1
          exact hc.stop (by rw [hd1]; simp) ho
    generalize hcb : M6.closesB f.x.name.data.toList tk.name.data.toList = cb at *
    have hCl : Hid (A ≠ [] → ∀ W,Calls Tryz.prog 219 #[.string f.x.name,.string tk.name] W fun e w' => e = .returned (.bool cb) ∧ Below W.heap.size W w'):=fun hA W => by
      have:=modCloses f.x.name tk.name W (by have:=hfn hA; omega)
      rw [hcb] at this
      exact this
    replace hk:=Lib.hid hk
    replace hc:=Lib.hid hc
    replace hcb:=Lib.hid hcb
    replace hs1:=Lib.hid hs1
    replace hfn:=Lib.hid hfn
    replace hvo1:=Lib.hid hvo1
    clear bzr hcl2 hcm2
    go_upto_region 1 with fail
    go_cut [21] from 5 to 21 (fun u21 wx => u21 = .bool (!A.isEmpty && cb) ∧ Below wr.heap.size wr wx)
    case first =>
      rcases List.eq_nil_or_concat A with hA | ⟨A',p,hA⟩
      · subst hA
        go_wp2_with fail
        go_region
        go_wp2_with fail
        go_meet
        case rel => exact ⟨rfl,(Below.refl _ wr).drew⟩
      · have hAn : A ≠ []:=by rw [hA]; simp
        have hAe : (!A.isEmpty && cb) = cb:=by rw [hA]; simp
        have hg1 : decide ((1 : Int) < (A.length : Int) + 1) = true:=decide_eq_true (by have:=List.length_pos_iff.2 hAn; omega)
        have hg2 : (1 : Int) < (A.length : Int) + 1:=by have:=List.length_pos_iff.2 hAn; omega
        have hA6 : A.length ≤ 1000000:=by omega
        replace hAe:=Lib.hid hAe
        clear hA
        go_wp2_with fail
        go_region_law
          (first
            | (go_simp; go_at_call 220; refine (bInner (go:=go) (cap:=cap) (by first | assumption | (simp [*,World.cell?_alloc_some])) hA6).mono ?_; rintro e w' ⟨rfl,rfl⟩)
            | (go_simp; go_at_call 219; refine (hCl.out hAn _).mono ?_; rintro e w2 ⟨rfl,hb2⟩; replace hb2:=Lib.hid hb2))
        all_goals
          have hb2' : Below wr.heap.size wr w2:=⟨hb2.out.os,hb2.out.tape,hb2.out.output,hb2.out.size,hb2.out.block⟩
          clear hb2
          go_wp2_with fail
          go_meet
          case rel => exact ⟨by rw [hAe.out],hb2'⟩
    case rest =>
      obtain ⟨rfl,hbx⟩:=hcut
      have hk2:=hk.out.below hbx
      generalize hbb : (!A.isEmpty && cb) = bb at *
      cases bb
      · have hs1' : s1 = ⟨s.L,d1⟩:=hs1.out (by
          cases A with
          | nil => exact .inl rfl
          | cons a A => right; simpa using hbb)
        have hkc:=hk2
        replace hs1':=Lib.hid hs1'
        clear hk2 hk hc hcb hs1 hbb hCl hfn z1 k0 c1 hbx hd1
        have hzx:=hkc.out.size
        have bzx:=bz.out.keep (w':=wc) (hkc.out.block w.heap.size (by omega) (fun e => by have:=hlt.out _ e; omega))
        have y1:=bzx.cell (i:=1) rfl
        have y2:=bzx.cell (i:=2) rfl
        have hatx:=hat0.out.keep (w':=wc) (fun b hb => hkc.out.block b (by have:=(hS.out b hb).1; omega) (hS.out b hb).2)
        have hBg:=bBegun S tk.name tk.attrs (.slice av tk.attrs.length cv) (.slice none 0 0) wc hatx (fun b hb => by have:=(hS.out b hb).1; omega) ⟨_,_,_,rfl⟩ (by omega)
        replace hkc:=Lib.hid hkc
        replace bzx:=Lib.hid bzx
        replace hBg:=Lib.hid hBg
        clear hatx
        go_wp2_with fail
        refine hBg.out.mono ?_
        rintro e w3 ⟨va3,rfl,hown3,hb3⟩
        obtain ⟨a3,c3,rfl⟩:=own_sliceW hown3
        have hzx3:=hb3.size
        have r3 : Reach F w0 w3 g mb _ _ _ _ _ _ _:=Reach.step ⟨hkc.out.bld,hkc.out.out⟩ (hkc.out.bld.st_below hb3)
        have hg3 : RepV (idleB (grw F w0 w3) g mb vo1 vt1 (A ++ [f])) w3 (M7.elT tk) (.slice a3 tk.attrs.length c3) (.slice none 0 0):=by
          refine ⟨Row.own hown3 (fun c hc => ⟨.inr ⟨by have:=(hown3.lt c hc).1; omega,(hown3.lt c hc).2⟩,fun i e => ?_⟩),RepN.nil _ _⟩
          have:=hkc.out.bld.role_lt e
          have:=(hown3.lt c hc).1
          omega
        have bz3:=bzx.out.below hb3 bzx.out.lt
        replace r3:=Lib.hid r3
        replace hg3:=Lib.hid hg3
        replace bz3:=Lib.hid bz3
        clear y1 y2 hBg hown3
        go_upto_region 4 with fail
        have hb4 : Below w3.heap.size w3 (w3.alloc (.cells #[.int .i64 1,.string tk.name,.slice a3 tk.attrs.length c3,.string ⟨#[]⟩,.slice none 0 0] 41)):=(Below.refl _ w3).alloc (Nat.le_refl _) _
        have bn4:=Box.new w3 41 [.int .i64 1,.string tk.name,.slice a3 tk.attrs.length c3,.string ⟨#[]⟩,.slice none 0 0]
        change Box (w3.alloc (.cells #[.int .i64 1,.string tk.name,.slice a3 tk.attrs.length c3,.string ⟨#[]⟩,.slice none 0 0] 41)) _ _ _ at bn4
        obtain ⟨w4,hw4⟩ : ∃ W,(w3.alloc (.cells #[.int .i64 1,.string tk.name,.slice a3 tk.attrs.length c3,.string ⟨#[]⟩,.slice none 0 0] 41)) = W:=⟨_,rfl⟩
        have hz4 : w4.heap.size = w3.heap.size + 1:=by rw [← hw4]; simp
        rw [hw4] at hb4 bn4 ⊢
        have bz4:=bz3.out.below hb4 bz3.out.lt
        have y1 : w4.cell? ⟨w.heap.size,1,none⟩ = some (.string tk.name):=bz4.cell (i:=1) rfl
        have hV:=Lib.hid (fun W => domVoid tk.name W)
        have hF3 : ∀ b,grw F w0 w3 b → b < w3.heap.size:=r3.out.1.lt
        have hB4:=r3.out.1.below hb4
        have hg4 : RepV (idleB (grw F w0 w3) g mb vo1 vt1 (A ++ [f])) w4 (M7.elT tk) (.slice a3 tk.attrs.length c3) (.slice none 0 0):=hg3.out.keep (fun b hb => hb4.block b (hF3 b hb.1))
        have hkl:=hkc.out.inv.kids_le f (by simp)
        have hfs:=hkc.out.inv.fsq
        rw [hll] at hfs
        have hn4 : w.heap.size < w3.heap.size:=bz3.out.lt
        replace hF3:=Lib.hid hF3
        replace hB4:=Lib.hid hB4
        replace hg4:=Lib.hid hg4
        replace bn4:=Lib.hid bn4
        replace bz4:=Lib.hid bz4
        replace hb4:=Lib.hid hb4
        clear hw4
        generalize hvb : M3.voidB tk.name.data.toList = vb at *
        go_wp2_with fail
        refine (hV.out _).mono ?_
        rintro e w4' ⟨rfl,hw4'⟩
        rw [hw4']
        clear hw4' y1
        cases vb
        · have he2 : s2 = ⟨M7.putN d1 (M7.elT tk) s.L,d1 + 1⟩:=by rw [hs2.out,hs1'.out]; simp
          have hSt:=Lib.hid (bSettle hB4.out (by omega) (by omega))
          have hmp:=(hkc.out.inv.map tk.name).2
          have hPle:=M7.plc_le (namesW (A ++ [f])) tk.name d1
          have hdl : d1 = A.length:=hkc.out.inv.d
          obtain ⟨P,hP⟩ : ∃ P,P = M7.plc (namesW (A ++ [f])) tk.name d1:=⟨_,rfl⟩
          rw [← hP] at hPle
          change _ = DataW.lit (.int .i64 ((M7.plc (namesW (A ++ [f])) tk.name d1 : Nat) : Int)) at hmp
          rw [← hP] at hmp
          replace hmp:=Lib.hid hmp
          replace hP:=Lib.hid hP
          replace he2:=Lib.hid he2
          go_wp2_with fail
          refine hSt.out.mono ?_
          rintro e w5 ⟨rfl,vt5,pt5,f5,hx5,hn5,s5⟩
          have s5':=s5.start hb4.out hF3.out
          have r5 : Reach F w0 w5 g mb vo1 vt5 pt5 (A ++ [f5]) [] _ _:=r3.out.step s5'
          have hg5:=idle_grw (s5'.2.2.rep hg3.out) (by omega) s5'.2.1.size
          have hz5:=s5.2.1.size
          have bn5:=bn4.out.keep (w':=w5) (s5.2.1.block w3.heap.size (by omega) (fun e => by have:=hF3.out _ e; omega))
          have hnw : ∀ W,w0.heap.size ≤ W.heap.size → ¬ grw F w0 W w.heap.size:=fun W _ e => e.elim (fun e => by have:=hlt.out _ e; omega) (fun e => by omega)
          have bz5:=bz4.out.keep (w':=w5) (s5.2.1.block w.heap.size (by omega) (hnw w3 (by omega)))
          have k0:=r5.1.box.cell (i:=0) rfl
          have k3:=r5.1.box.cell (i:=3) rfl
          rw [hvo1.out] at k0
          have n0:=bn5.cell (i:=0) rfl
          have n1:=bn5.cell (i:=1) rfl
          have n2:=bn5.cell (i:=2) rfl
          have n3:=bn5.cell (i:=3) rfl
          have n4:=bn5.cell (i:=4) rfl
          have y1 : w5.cell? ⟨w.heap.size,1,none⟩ = some (.string tk.name):=bz5.cell (i:=1) rfl
          have hkey : keyOf Tryz.prog 9 (.string tk.name) = some (keyN tk.name):=WideMaps.keyOf_string_mk Tryz.underlying9 (s:=tk.name) (by unfold maxLen; omega)
          have hrun:=look_int (P:=Tryz.prog) r5.1.drew.map keySS Tryz.underlying191 Tryz.underlying3 (Tryz.zeroValue3 _) hkey hmp.out
          have hgo : g ≠ go:=fun e => by
            have:=r5.1.inj 0 2 g rfl (by rw [hvo1.out,e]; rfl); omega
          have hgl:=r5.1.box.lt
          have fg0:=r5.1.box.free 0
          have o5:=r5.1.row
          rw [hvo1.out,show (A ++ [f5]).length = A.length + 1 by simp] at o5
          have hone : ∀ u ∈ ([.int .i64 1,.string tk.name,.slice a3 tk.attrs.length c3,.string ⟨#[]⟩,.slice none 0 0,.int .i64 (P : Int)] : List Value),u.oneCell' = true:=by simp [Value.oneCell']
          have hngo : (Value.slice (some ⟨go,0,none⟩) (A.length + 1) cap).ownBlock ≠ some g:=fun e => hgo (by have e : go = g:=Option.some.inj e; exact e.symm)
          obtain ⟨j0,hj0,hj00,hj01,hj02⟩:=info_parts infoE
          replace r5:=Lib.hid r5
          replace hg5:=Lib.hid hg5
          replace s5':=Lib.hid s5'
          replace bz5:=Lib.hid bz5
          replace hx5:=Lib.hid hx5
          replace hn5:=Lib.hid hn5
          replace hnw:=Lib.hid hnw
          have bn5':=Lib.hid bn5
          clear s5 bn5 hSt hB4 hg4 hg3 bz4 bz3 bn4 r3 hat0 bz
          go_upto_region 7 with fail
          obtain ⟨gg,c2,w6,hrunA,hown6,hgrow,hat6,hlt6⟩:=run_append_lies (P:=Tryz.prog) (w:=(w5.alloc (.cells #[.int .i64 1,.string tk.name,.slice a3 tk.attrs.length c3,.string ⟨#[]⟩,.slice none 0 0,.int .i64 (P : Int)] 189)).drew) 190 190 0 189 j0 _ 6 96 Tryz.underlying190 hj0 hj00 hj01 hj02 rfl (by omega) (.slice (some ⟨go,0,none⟩) (A.length + 1) cap) (A.length + 1) (cellsF (A ++ [f5])) ((o5.alloc _).drew) ⟨w5.heap.size,0,none⟩ 1 1 [.int .i64 1,.string tk.name,.slice a3 tk.attrs.length c3,.string ⟨#[]⟩,.slice none 0 0,.int .i64 (P : Int)] (by rfl) (World.news_of_block (cs:=#[.int .i64 1,.string tk.name,.slice a3 tk.attrs.length c3,.string ⟨#[]⟩,.slice none 0 0,.int .i64 (P : Int)]) (t:=189) (fr:=(0,0)) (heap_alloc_new w5 _)) hone (by omega) (by unfold maxLen; omega) (by omega) (by simp) (w5.heap.size + 1) (by simp)
          have f6 : w6.frozen? ⟨g,0,none⟩ = false:=(hgrow.frozen_far ⟨g,0,none⟩ (Nat.lt_of_lt_of_le hgl (by simp)) (Ne.symm hngo)).trans ((frozen_alloc7 hgl).trans fg0)
          have k6 : w6.cell? ⟨g,0,none⟩ = some (.slice (some ⟨go,0,none⟩) (A.length + 1) cap):=(hgrow.cell_far ⟨g,0,none⟩ (Nat.lt_of_lt_of_le hgl (by simp)) (Ne.symm hngo)).trans ((World.cell?_of_block (a:=⟨g,0,none⟩) (Below.heap_alloc w5 _ g hgl)).trans k0)
          replace hown6:=Lib.hid hown6
          replace hgrow:=Lib.hid hgrow
          replace hat6:=Lib.hid hat6
          have hw57 : ∀ W,(W = w5.drew ∨ W = (w5.alloc (.cells #[.int .i64 1,.string tk.name,.slice a3 tk.attrs.length c3,.string ⟨#[]⟩,.slice none 0 0,.int .i64 (P : Int)] 189)).drew) → Below w5.heap.size w5 W:=fun W h => by
            rcases h with rfl | rfl
            · exact (Below.refl _ w5).drew
            · exact ((Below.refl _ w5).alloc (Nat.le_refl _) _).drew
          have hcells : ∀ W,(W = w5.drew ∨ W = (w5.alloc (.cells #[.int .i64 1,.string tk.name,.slice a3 tk.attrs.length c3,.string ⟨#[]⟩,.slice none 0 0,.int .i64 (P : Int)] 189)).drew) → W.cell? ⟨g,0,none⟩ = some (.slice (some ⟨go,0,none⟩) (A.length + 1) cap) ∧ W.cell? ⟨g,3,none⟩ = some (.map (some mb)) ∧ W.cell? ⟨w.heap.size,1,none⟩ = some (.string tk.name) ∧
              W.cell? ⟨w3.heap.size,0,none⟩ = some (.int .i64 1) ∧ W.cell? ⟨w3.heap.size,1,none⟩ = some (.string tk.name) ∧ W.cell? ⟨w3.heap.size,2,none⟩ = some (.slice a3 tk.attrs.length c3) ∧ W.cell? ⟨w3.heap.size,3,none⟩ = some (.string ⟨#[]⟩) ∧ W.cell? ⟨w3.heap.size,4,none⟩ = some (.slice none 0 0) ∧
              (Instr.lookup 191 (.map (some mb)) (.string tk.name) false).run Tryz.prog W = .ok (.int .i64 (P : Int)) W:=fun W h => by
            have hb:=hw57 W h
            have hB:=r5.out.1.below hb
            have k0':=hB.box.cell (i:=0) rfl
            rw [hvo1.out] at k0'
            have bn':=bn5'.out.below hb bn5'.out.lt
            have bz':=bz5.out.below hb bz5.out.lt
            exact ⟨k0',hB.box.cell (i:=3) rfl,bz'.cell (i:=1) rfl,bn'.cell (i:=0) rfl,bn'.cell (i:=1) rfl,bn'.cell (i:=2) rfl,bn'.cell (i:=3) rfl,bn'.cell (i:=4) rfl,look_int (P:=Tryz.prog) hB.map keySS Tryz.underlying191 Tryz.underlying3 (Tryz.zeroValue3 _) hkey hmp.out⟩
          have mixed : Tryz.prog.follows Departure.mixedOrders = true:=by kernel_rfl
          clear hw57 n0 n1 n2 n3 n4 k0 k3 y1 hrun
          refine wp_region_knownC (n:=19) ([some (Value.pointer (some ⟨g,0,none⟩)),some (Value.pointer (some ⟨g,0,none⟩)),some (.pointer (some ⟨g,0,none⟩)),some (.pointer (some ⟨g,0,none⟩)),some (.slice (some ⟨go,0,none⟩) (A.length + 1) cap),some (.agg #[.int .i64 1,.string tk.name,.slice a3 tk.attrs.length c3,.string ⟨#[]⟩,.slice none 0 0]),some (Value.pointer (some ⟨g,0,none⟩)),some (.pointer (some ⟨g,0,none⟩)),some (.pointer (some ⟨g,3,none⟩)),some (.map (some mb)),some (.pointer (some ⟨w.heap.size,1,none⟩)),some (.string tk.name),some (.int .i64 (P : Int)),some (.agg #[.int .i64 1,.string tk.name,.slice a3 tk.attrs.length c3,.string ⟨#[]⟩,.slice none 0 0,.int .i64 (P : Int)]),some (.slice (some ⟨w5.heap.size,0,none⟩) 1 1),some (.slice (some ⟨gg,0,none⟩) (A.length + 1 + 1) c2),some (.pointer (some ⟨g,0,none⟩)),some (.pointer (some ⟨g,0,none⟩)),none] : List (Option Value)) (fun t => ⟨#[Value.pointer (some ⟨g,0,none⟩),tk.val (Value.slice av tk.attrs.length cv),undef,Value.pointer (some ⟨w.heap.size,0,none⟩),Value.pointer (some ⟨w3.heap.size,0,none⟩),u5,u6,u7,u8,u9,u10,u11,u12,u13,u14,u15,u16,u17,u18,u19,u20,Value.bool false,u22,u23,Value.pointer (some ⟨w.heap.size,1,none⟩),Value.string tk.name,Value.pointer (some ⟨w.heap.size,2,none⟩),Value.slice av tk.attrs.length cv,Value.agg #[Value.int IntKind.i64 1,Value.string tk.name,Value.slice a3 tk.attrs.length c3,Value.string { data:=#[] },Value.slice none 0 0],Value.pointer (some ⟨w.heap.size,1,none⟩),Value.string tk.name,Value.bool false,undef,undef,undef,Value.pointer (some ⟨g,0,none⟩),Value.tuple #[],t 0,t 1,t 2,t 3,t 4,t 5,t 6,t 7,t 8,t 9,t 10,t 11,t 12,t 13,t 14,t 15,t 16,t 17,undef,undef,undef,undef,undef,undef,undef,undef,undef,undef,undef,undef],[]⟩) (fun f t W => PuI 14 15 18 w5.drew (w5.alloc (.cells #[.int .i64 1,.string tk.name,.slice a3 tk.attrs.length c3,.string ⟨#[]⟩,.slice none 0 0,.int .i64 (P : Int)] 189)).drew w6 (w6.setCell ⟨g,0,none⟩ (.slice (some ⟨gg,0,none⟩) (A.length + 1 + 1) c2)) f W) (fun j => match j with | 0 => undef | 1 => undef | 2 => undef | 3 => undef | 4 => undef | 5 => undef | 6 => undef | 7 => undef | 8 => undef | 9 => undef | 10 => undef | 11 => undef | 12 => undef | 13 => undef | 14 => undef | 15 => undef | 16 => undef | 17 => undef | _ => undef) (by kernel_rfl) (by rfl) (by rfl) (by kernel_rfl) rfl ?i0 ?step ?fin
          case i0 =>
            exact PuI.start 19 (by decide) (by decide) (by decide)
          case step =>
            intro j0 hj0 f t W hfi hwt hcl hk2 hI
            have hdone : f 15 = true → ∀ j,1 ≤ j → j < 15 → f j = true:=fun q15 j h1 h2 => by
              have q4:=hcl 15 4 (by kernel_rfl) q15
              have q3:=hcl 4 3 (by kernel_rfl) q4
              have q2:=hcl 3 2 (by kernel_rfl) q3
              have q1:=hcl 2 1 (by kernel_rfl) q2
              have q14:=hcl 15 14 (by kernel_rfl) q15
              have q13:=hcl 14 13 (by kernel_rfl) q14
              have q5:=hcl 13 5 (by kernel_rfl) q13
              have q12:=hcl 13 12 (by kernel_rfl) q13
              have q9:=hcl 12 9 (by kernel_rfl) q12
              have q11:=hcl 12 11 (by kernel_rfl) q12
              have q8:=hcl 9 8 (by kernel_rfl) q9
              have q7:=hcl 8 7 (by kernel_rfl) q8
              have q6:=hcl 7 6 (by kernel_rfl) q7
              have q10:=hcl 11 10 (by kernel_rfl) q11
              obtain rfl | rfl | rfl | rfl | rfl | rfl | rfl | rfl | rfl | rfl | rfl | rfl | rfl | rfl : j = 1 ∨ j = 2 ∨ j = 3 ∨ j = 4 ∨ j = 5 ∨ j = 6 ∨ j = 7 ∨ j = 8 ∨ j = 9 ∨ j = 10 ∨ j = 11 ∨ j = 12 ∨ j = 13 ∨ j = 14:=by omega
              all_goals assumption
            have hnot : 1 ≤ j0 → j0 < 15 → f 15 = false:=fun h1 h2 => Bool.eq_false_iff.2 (fun h => by rw [hdone h j0 h1 h2] at hfi; cases hfi)
            have h1815 : f 18 = true → f 15 = true:=hcl 18 15 (by kernel_rfl)
            clear hcl
            obtain rfl | rfl | rfl | rfl | rfl | rfl | rfl | rfl | rfl | rfl | rfl | rfl | rfl | rfl | rfl | rfl | rfl | rfl | rfl : j0 = 0 ∨ j0 = 1 ∨ j0 = 2 ∨ j0 = 3 ∨ j0 = 4 ∨ j0 = 5 ∨ j0 = 6 ∨ j0 = 7 ∨ j0 = 8 ∨ j0 = 9 ∨ j0 = 10 ∨ j0 = 11 ∨ j0 = 12 ∨ j0 = 13 ∨ j0 = 14 ∨ j0 = 15 ∨ j0 = 16 ∨ j0 = 17 ∨ j0 = 18:=by omega
            · -- operation 0
              try (have h15:=hnot (by decide) (by decide); have hcw:=hcells W (hI.early h15); obtain ⟨s0,s3,s1,n0,n1,n2,n3,n4,hlk⟩:=hcw)
              replace hI:=Lib.hid hI
              replace hk2:=Lib.hid hk2
              clear hwt
              refine wpOp_step rfl (fun K hK => ?_)
              go_simp
              exact hK _ _ ⟨_,by simp [updT],hk2.out.at_ rfl,hI.out.same _ (by decide) (by decide) (by decide)⟩
            · -- operation 1
              try (have h15:=hnot (by decide) (by decide); have hcw:=hcells W (hI.early h15); obtain ⟨s0,s3,s1,n0,n1,n2,n3,n4,hlk⟩:=hcw)
              replace hI:=Lib.hid hI
              replace hk2:=Lib.hid hk2
              clear hwt
              refine wpOp_step rfl (fun K hK => ?_)
              go_simp
              exact hK _ _ ⟨_,by simp [updT],hk2.out.at_ rfl,hI.out.same _ (by decide) (by decide) (by decide)⟩
            · -- operation 2
              have e1 : t 1 = Value.pointer (some ⟨g,0,none⟩):=hk2 1 _ (hwt 1 (by kernel_rfl)) rfl
              try (have h15:=hnot (by decide) (by decide); have hcw:=hcells W (hI.early h15); obtain ⟨s0,s3,s1,n0,n1,n2,n3,n4,hlk⟩:=hcw)
              replace hI:=Lib.hid hI
              replace hk2:=Lib.hid hk2
              clear hwt
              refine wpOp_step rfl (fun K hK => ?_)
              go_simp
              exact hK _ _ ⟨_,by simp [updT,e1],hk2.out.at_ rfl,hI.out.same _ (by decide) (by decide) (by decide)⟩
            · -- operation 3
              have e2 : t 2 = .pointer (some ⟨g,0,none⟩):=hk2 2 _ (hwt 2 (by kernel_rfl)) rfl
              try (have h15:=hnot (by decide) (by decide); have hcw:=hcells W (hI.early h15); obtain ⟨s0,s3,s1,n0,n1,n2,n3,n4,hlk⟩:=hcw)
              replace hI:=Lib.hid hI
              replace hk2:=Lib.hid hk2
              clear hwt
              refine wpOp_step rfl (fun K hK => ?_)
              go_simp
              exact hK _ _ ⟨_,by simp [updT,e2],hk2.out.at_ rfl,hI.out.same _ (by decide) (by decide) (by decide)⟩
            · -- operation 4
              have e3 : t 3 = .pointer (some ⟨g,0,none⟩):=hk2 3 _ (hwt 3 (by kernel_rfl)) rfl
              try (have h15:=hnot (by decide) (by decide); have hcw:=hcells W (hI.early h15); obtain ⟨s0,s3,s1,n0,n1,n2,n3,n4,hlk⟩:=hcw)
              replace hI:=Lib.hid hI
              replace hk2:=Lib.hid hk2
              clear hwt
              refine wpOp_step rfl (fun K hK => ?_)
              go_simp
              exact hK _ _ ⟨_,by simp [updT,e3],hk2.out.at_ rfl,hI.out.same _ (by decide) (by decide) (by decide)⟩
            · -- operation 5
              try (have h15:=hnot (by decide) (by decide); have hcw:=hcells W (hI.early h15); obtain ⟨s0,s3,s1,n0,n1,n2,n3,n4,hlk⟩:=hcw)
              replace hI:=Lib.hid hI
              replace hk2:=Lib.hid hk2
              clear hwt
              refine wpOp_step rfl (fun K hK => ?_)
              go_simp
              exact hK _ _ ⟨_,by simp [updT],hk2.out.at_ rfl,hI.out.same _ (by decide) (by decide) (by decide)⟩
            · -- operation 6
              try (have h15:=hnot (by decide) (by decide); have hcw:=hcells W (hI.early h15); obtain ⟨s0,s3,s1,n0,n1,n2,n3,n4,hlk⟩:=hcw)
              replace hI:=Lib.hid hI
              replace hk2:=Lib.hid hk2
              clear hwt
              refine wpOp_step rfl (fun K hK => ?_)
              go_simp
              exact hK _ _ ⟨_,by simp [updT],hk2.out.at_ rfl,hI.out.same _ (by decide) (by decide) (by decide)⟩
            · -- operation 7
              have e6 : t 6 = Value.pointer (some ⟨g,0,none⟩):=hk2 6 _ (hwt 6 (by kernel_rfl)) rfl
              try (have h15:=hnot (by decide) (by decide); have hcw:=hcells W (hI.early h15); obtain ⟨s0,s3,s1,n0,n1,n2,n3,n4,hlk⟩:=hcw)
              replace hI:=Lib.hid hI
              replace hk2:=Lib.hid hk2
              clear hwt
              refine wpOp_step rfl (fun K hK => ?_)
              go_simp
              exact hK _ _ ⟨_,by simp [updT,e6],hk2.out.at_ rfl,hI.out.same _ (by decide) (by decide) (by decide)⟩
            · -- operation 8
              have e7 : t 7 = .pointer (some ⟨g,0,none⟩):=hk2 7 _ (hwt 7 (by kernel_rfl)) rfl
              try (have h15:=hnot (by decide) (by decide); have hcw:=hcells W (hI.early h15); obtain ⟨s0,s3,s1,n0,n1,n2,n3,n4,hlk⟩:=hcw)
              replace hI:=Lib.hid hI
              replace hk2:=Lib.hid hk2
              clear hwt
              refine wpOp_step rfl (fun K hK => ?_)
              go_simp
              exact hK _ _ ⟨_,by simp [updT,e7],hk2.out.at_ rfl,hI.out.same _ (by decide) (by decide) (by decide)⟩
            · -- operation 9
              have e8 : t 8 = .pointer (some ⟨g,3,none⟩):=hk2 8 _ (hwt 8 (by kernel_rfl)) rfl
              try (have h15:=hnot (by decide) (by decide); have hcw:=hcells W (hI.early h15); obtain ⟨s0,s3,s1,n0,n1,n2,n3,n4,hlk⟩:=hcw)
              replace hI:=Lib.hid hI
              replace hk2:=Lib.hid hk2
              clear hwt
              refine wpOp_step rfl (fun K hK => ?_)
              go_simp
              exact hK _ _ ⟨_,by simp [updT,e8],hk2.out.at_ rfl,hI.out.same _ (by decide) (by decide) (by decide)⟩
            · -- operation 10
              try (have h15:=hnot (by decide) (by decide); have hcw:=hcells W (hI.early h15); obtain ⟨s0,s3,s1,n0,n1,n2,n3,n4,hlk⟩:=hcw)
              replace hI:=Lib.hid hI
              replace hk2:=Lib.hid hk2
              clear hwt
              refine wpOp_step rfl (fun K hK => ?_)
              go_simp
              exact hK _ _ ⟨_,by simp [updT],hk2.out.at_ rfl,hI.out.same _ (by decide) (by decide) (by decide)⟩
            · -- operation 11
              have e10 : t 10 = .pointer (some ⟨w.heap.size,1,none⟩):=hk2 10 _ (hwt 10 (by kernel_rfl)) rfl
              try (have h15:=hnot (by decide) (by decide); have hcw:=hcells W (hI.early h15); obtain ⟨s0,s3,s1,n0,n1,n2,n3,n4,hlk⟩:=hcw)
              replace hI:=Lib.hid hI
              replace hk2:=Lib.hid hk2
              clear hwt
              refine wpOp_step rfl (fun K hK => ?_)
              go_simp
              exact hK _ _ ⟨_,by simp [updT,e10],hk2.out.at_ rfl,hI.out.same _ (by decide) (by decide) (by decide)⟩
            · -- operation 12
              have e9 : t 9 = .map (some mb):=hk2 9 _ (hwt 9 (by kernel_rfl)) rfl
              have e11 : t 11 = .string tk.name:=hk2 11 _ (hwt 11 (by kernel_rfl)) rfl
              try (have h15:=hnot (by decide) (by decide); have hcw:=hcells W (hI.early h15); obtain ⟨s0,s3,s1,n0,n1,n2,n3,n4,hlk⟩:=hcw)
              replace hI:=Lib.hid hI
              replace hk2:=Lib.hid hk2
              clear hwt
              refine wpOp_step rfl (fun K hK => ?_)
              go_simp
              exact hK _ _ ⟨_,by simp [updT,e9,e11],hk2.out.at_ rfl,hI.out.same _ (by decide) (by decide) (by decide)⟩
            · -- operation 13
              have e5 : t 5 = .agg #[.int .i64 1,.string tk.name,.slice a3 tk.attrs.length c3,.string ⟨#[]⟩,.slice none 0 0]:=hk2 5 _ (hwt 5 (by kernel_rfl)) rfl
              have e12 : t 12 = .int .i64 (P : Int):=hk2 12 _ (hwt 12 (by kernel_rfl)) rfl
              try (have h15:=hnot (by decide) (by decide); have hcw:=hcells W (hI.early h15); obtain ⟨s0,s3,s1,n0,n1,n2,n3,n4,hlk⟩:=hcw)
              replace hI:=Lib.hid hI
              replace hk2:=Lib.hid hk2
              clear hwt
              refine wpOp_step rfl (fun K hK => ?_)
              go_simp
              exact hK _ _ ⟨_,by simp [updT,e5,e12],hk2.out.at_ rfl,hI.out.same _ (by decide) (by decide) (by decide)⟩
            · -- operation 14
              have e13 : t 13 = .agg #[.int .i64 1,.string tk.name,.slice a3 tk.attrs.length c3,.string ⟨#[]⟩,.slice none 0 0,.int .i64 (P : Int)]:=hk2 13 _ (hwt 13 (by kernel_rfl)) rfl
              have h15 : f 15 = false:=Bool.eq_false_iff.2 (fun h => by have:=hdone h 14 (by decide) (by decide); rw [hfi] at this; cases this)
              have h18 : f 18 = false:=Bool.eq_false_iff.2 (fun h => by rw [h1815 h] at h15; cases h15)
              have hW:=hI.1 hfi
              subst hW
              replace hk2:=Lib.hid hk2
              replace hI:=Lib.hid hI
              clear hwt
              refine wpOp_step rfl (fun K hK => ?_)
              go_simp
              exact hK _ _ ⟨_,by simp [updT,e13],hk2.out.at_ rfl,PuI.mk1 (by decide) (by decide) h15 h18⟩
            · -- operation 15
              have e4 : t 4 = .slice (some ⟨go,0,none⟩) (A.length + 1) cap:=hk2 4 _ (hwt 4 (by kernel_rfl)) rfl
              have e14 : t 14 = .slice (some ⟨w5.heap.size,0,none⟩) 1 1:=hk2 14 _ (hwt 14 (by kernel_rfl)) rfl
              have h14:=hwt 14 (by kernel_rfl)
              have h18 : f 18 = false:=Bool.eq_false_iff.2 (fun h => by rw [h1815 h] at hfi; cases hfi)
              have hW:=hI.2.1 h14 hfi
              subst hW
              replace hk2:=Lib.hid hk2
              replace hI:=Lib.hid hI
              clear hwt
              refine wpOp_step rfl (fun K hK => ?_)
              refine wp_append_run _ _ 190 rfl _ _ _ (by show t 4 = _; exact e4) (by show t 14 = _; exact e14) hrunA ?_
              exact hK _ _ ⟨_,by simp [updT,Act.put],hk2.out.at_ rfl,PuI.app (by decide) (by decide) h14 h18⟩
            · -- operation 16
              have e0 : t 0 = Value.pointer (some ⟨g,0,none⟩):=hk2 0 _ (hwt 0 (by kernel_rfl)) rfl
              try (have h15:=hnot (by decide) (by decide); have hcw:=hcells W (hI.early h15); obtain ⟨s0,s3,s1,n0,n1,n2,n3,n4,hlk⟩:=hcw)
              replace hI:=Lib.hid hI
              replace hk2:=Lib.hid hk2
              clear hwt
              refine wpOp_step rfl (fun K hK => ?_)
              go_simp
              exact hK _ _ ⟨_,by simp [updT,e0],hk2.out.at_ rfl,hI.out.same _ (by decide) (by decide) (by decide)⟩
            · -- operation 17
              have e16 : t 16 = .pointer (some ⟨g,0,none⟩):=hk2 16 _ (hwt 16 (by kernel_rfl)) rfl
              try (have h15:=hnot (by decide) (by decide); have hcw:=hcells W (hI.early h15); obtain ⟨s0,s3,s1,n0,n1,n2,n3,n4,hlk⟩:=hcw)
              replace hI:=Lib.hid hI
              replace hk2:=Lib.hid hk2
              clear hwt
              refine wpOp_step rfl (fun K hK => ?_)
              go_simp
              exact hK _ _ ⟨_,by simp [updT,e16],hk2.out.at_ rfl,hI.out.same _ (by decide) (by decide) (by decide)⟩
            · -- operation 18
              have e15 : t 15 = .slice (some ⟨gg,0,none⟩) (A.length + 1 + 1) c2:=hk2 15 _ (hwt 15 (by kernel_rfl)) rfl
              have e17 : t 17 = .pointer (some ⟨g,0,none⟩):=hk2 17 _ (hwt 17 (by kernel_rfl)) rfl
              have h15:=hwt 15 (by kernel_rfl)
              have h14:=hdone h15 14 (by decide) (by decide)
              have hW:=hI.2.2.1 h15 hfi
              subst hW
              replace hk2:=Lib.hid hk2
              replace hI:=Lib.hid hI
              clear hwt
              refine wpOp_step rfl (fun K hK => ?_)
              go_simp
              exact hK _ _ ⟨undef,by simp [updT,e15,e17],hk2.out.free rfl,PuI.put (by decide) (by decide) h14 h15⟩
          case fin =>
            intro f t W hall hk2 hI
            have hW:=hI.2.2.2 (hall 18 (by omega))
            subst hW
            clear hk2 hall hI hcells
            have hb7 : Below w5.heap.size w5 (w5.alloc (.cells #[.int .i64 1,.string tk.name,.slice a3 tk.attrs.length c3,.string ⟨#[]⟩,.slice none 0 0,.int .i64 (P : Int)] 189)).drew:=((Below.refl _ w5).alloc (Nat.le_refl _) _).drew
            have S7:=r5.out.1.st_below hb7
            have r7:=r5.out.step S7
            have g7:=idle_grw (S7.2.2.rep hg5.out) r5.out.2.size hb7.size
            have bz7:=bz5.out.below hb7 bz5.out.lt
            have hz7 : (w5.alloc (.cells #[.int .i64 1,.string tk.name,.slice a3 tk.attrs.length c3,.string ⟨#[]⟩,.slice none 0 0,.int .i64 (P : Int)] 189)).drew.heap.size = w5.heap.size + 1:=by simp
            have hl5 : (A ++ [f5]).length = A.length + 1:=by simp
            have p8:=r7.1.push (f:=⟨M7.elT tk,.slice a3 tk.attrs.length c3,.slice none 0 0,P⟩) (gg:=gg) (c2:=c2) (w2:=w6) rfl rfl g7 (by rw [hvo1.out]; exact hgrow.out) (by rw [hl5]; exact hown6.out) (by
              rw [hvo1.out]
              rcases hat6.out with h1 | h1
              · exact .inl h1
              · exact .inr (by omega))
            rw [hl5] at p8
            have bz8:=bz7.keep (p8.2.block w.heap.size bz7.lt (hnw.out _ (by omega)))
            have r8 : Reach F w0 _ g mb _ _ _ _ _ _ _:=⟨p8.1.grw2 r7.2.size p8.2.size,r7.2.trans p8.2⟩
            obtain ⟨w8,hw8⟩ : ∃ W,w6.setCell ⟨g,0,none⟩ (.slice (some ⟨gg,0,none⟩) (A.length + 1 + 1) c2) = W:=⟨_,rfl⟩
            rw [hw8] at bz8 r8 ⊢
            clear p8 S7 r7 g7 bz7 hown6 hgrow hat6 hrunA hw8 k6 f6
            have k0:=r8.1.box.cell (i:=0) rfl
            have k3:=r8.1.box.cell (i:=3) rfl
            have y1 : w8.cell? ⟨w.heap.size,1,none⟩ = some (.string tk.name):=bz8.cell (i:=1) rfl
            have hwf : (Lit.int .i64 ((A.length : Int) + 1)).wf = true:=by
              have h2 : IntKind.i64.min = -9223372036854775808:=rfl
              have h3 : IntKind.i64.max = 9223372036854775807:=rfl
              simp only [Lit.wf,Bool.and_eq_true,decide_eq_true_eq,h2,h3]
              omega
            have hnq:=hkc.out.inv.nq
            obtain ⟨w9,hrun9,own9,turn9⟩:=r8.1.drew.map.store keySS Tryz.underlying191 (by unfold maxLen; omega) hkey (plainElem_int (H:=Unit) Tryz.underlying3 hwf)
            have hg9 : w8.grownBy w9 (some mb):=⟨turn9.grown.os,turn9.grown.tape,turn9.grown.output,turn9.grown.size,turn9.grown.block⟩
            have r9:=(r8.step (r8.1.putm hg9 own9)).start hb0 hlt.out
            have hI9:=hkc.out.inv.push (f':=f5) (e:=⟨M7.elT tk,.slice a3 tk.attrs.length c3,.slice none 0 0,P⟩) hkc.out.bld.map.isMap hx5.out hn5.out rfl hP.out hts (c:=tokQ tk) (t:=tk) (by unfold tokQ; omega) (Nat.le_refl _)
            have ec : ((A.length + 1 : Nat) : Int) = (A.length : Int) + 1:=by omega
            rw [ec] at hI9
            have hf : BStep F w g mb s2 (q + tokQ tk) (.returned (.tuple #[])) w9:=⟨rfl,⟨_,_,_,_,_,_,_,r9.1,by rw [he2.out]; exact hI9⟩,r9.2⟩
            replace hf:=Lib.hid hf
            clear r8 r9 hI9 own9 turn9 hg9 bz8
            go_wp2_with fail
            go_region
            go_wp2_with fail
            go_end0
            exact hf.out
        · have he2 : s2 = ⟨M7.putN d1 (M7.elT tk) s.L,d1⟩:=by rw [hs2.out,hs1'.out]; simp
          have n0:=bn4.out.cell (i:=0) rfl
          have n1:=bn4.out.cell (i:=1) rfl
          have n2:=bn4.out.cell (i:=2) rfl
          have n3:=bn4.out.cell (i:=3) rfl
          have n4:=bn4.out.cell (i:=4) rfl
          have hAd:=Lib.hid (bAdd hB4.out (by omega) (by omega) hg4.out)
          replace he2:=Lib.hid he2
          go_wp2_with fail
          refine hAd.out.mono ?_
          rintro e w5 ⟨rfl,vt5,pt5,f5,hx5,hn5,s5⟩
          have r5:=(r3.out.step (s5.start hb4.out hF3.out)).start hb0 hlt.out
          have hI5:=hkc.out.inv.add (c:=tokQ tk) hx5 hn5 (by rfl) (by
            rw [M3.weight_cons,M3.weight_nil]
            show 1 + tk.attrs.length + M3.weight [] + 0 ≤ _
            rw [M3.weight_nil]; unfold tokQ; omega) (by unfold tokQ; omega)
          have hf : BStep F w g mb s2 (q + tokQ tk) (.returned (.tuple #[])) w5:=⟨rfl,⟨_,_,_,_,_,_,_,r5.1,by rw [he2.out]; exact hI5⟩,r5.2⟩
          replace hf:=Lib.hid hf
          clear s5 r5 hI5 hx5 hn5 n0 n1 n2 n3 n4
          go_wp2_with fail
          exact bodyPost_ret (v:=.tuple #[]) (by simp [results,Tryz.results213,go_sem]) rfl hf.out
      · obtain ⟨hA,hcT⟩ : A ≠ [] ∧ cb = true:=by
          cases A with
          | nil => simp at hbb
          | cons a A => exact ⟨by simp,by simpa using hbb⟩
        rcases List.eq_nil_or_concat A with h0 | ⟨A',p,h0⟩
        · exact absurd h0 hA
        rw [List.concat_eq_append] at h0
        subst h0
        obtain ⟨b1,b2,b3,b4,b5,b6⟩:=hk2.bounds hq
        have hcT2 : M6.closesB f.x.name.data.toList tk.name.data.toList = true:=hcb.out.trans hcT
        have hC:=Lib.hid (bShut hk2.bld b1 b2 b3 b4 b5 b6)
        replace hk2:=Lib.hid hk2
        replace hcT2:=Lib.hid hcT2
        clear hk hbb hbx hCl
        go_wp2_with fail
        refine hC.out.mono ?_
        rintro e w3 ⟨rfl,vo2,vt2,pt2,p',n',hx,hn,hn',hst⟩
        have hk3:=hk2.out.next hx hn hn' hst
        have hnm:=(hk2.out.inv.shut hk2.out.bld.map.isMap hx hn hn').2
        have hc3:=hc.out.next (by rw [hd1]; simp) hnm hcT2.out
        have hl2 : lenOf w3 g < lenOf wr g:=by
          obtain ⟨go2,cap2,hvo2,_⟩:=hk3.bld.open_slice (by simp)
          have k02:=hk3.bld.box.cell (i:=0) rfl
          rw [hvo2] at k02
          rw [lenOf_eq k02,lenOf_eq k0]
          simp
        replace hk3:=Lib.hid hk3
        replace hc3:=Lib.hid hc3
        clear hst hx hn hnm hk2 hc hC k0 z1 c1
        go_wp2_with fail
        go_roundw
        case rel => exact ⟨_,_,_,_,_,_,_,_,hk3.out,hc3.out⟩
        case measure => exact hl2
end Go.Proofs.YteefodibpjgicaaGreat
