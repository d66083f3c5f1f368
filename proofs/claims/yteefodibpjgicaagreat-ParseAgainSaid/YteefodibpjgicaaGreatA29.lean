/- Texts joined: Bld2. -/
import Derived.Test.YteefodibpjgicaaGreatA28
namespace Go.Proofs.YteefodibpjgicaaGreat
open Go.RowKit Go.Maps
theorem boxS5 {W : World} {g : Nat} {t : TypeId} {z0 z1 z2 z3 z4 : Value} (h : Box W g t [z0,z1,z2,z3,z4]) (c0 c1 c2 c3 c4 : Value) :
    Box (((((W.setCell ⟨g,0,none⟩ c0).setCell ⟨g,1,none⟩ c1).setCell ⟨g,2,none⟩ c2).setCell ⟨g,3,none⟩ c3).setCell ⟨g,4,none⟩ c4) g t [c0,c1,c2,c3,c4]:=by
  have:=((((h.set 0 c0).set 1 c1).set 2 c2).set 3 c3).set 4 c4
  simpa only [List.set_cons_succ,List.set_cons_zero] using this
structure Far (g : Nat) (W W' : World) : Prop where
  os : W'.os = W.os
  tape : W'.tape = W.tape
  output : W'.output = W.output
  size : W'.heap.size = W.heap.size
  block : ∀ b,b ≠ g → W'.heap[b]? = W.heap[b]?
theorem farS5 (W : World) (g : Nat) (c0 c1 c2 c3 c4 : Value) : Far g W (((((W.setCell ⟨g,0,none⟩ c0).setCell ⟨g,1,none⟩ c1).setCell ⟨g,2,none⟩ c2).setCell ⟨g,3,none⟩ c3).setCell ⟨g,4,none⟩ c4) :=
  have hb : Below 0 W (((((W.setCell ⟨g,0,none⟩ c0).setCell ⟨g,1,none⟩ c1).setCell ⟨g,2,none⟩ c2).setCell ⟨g,3,none⟩ c3).setCell ⟨g,4,none⟩ c4):=(((((Below.refl 0 W).setCell (p:=⟨g,0,none⟩) (Nat.zero_le _) c0).setCell (p:=⟨g,1,none⟩) (Nat.zero_le _) c1).setCell (p:=⟨g,2,none⟩) (Nat.zero_le _) c2).setCell (p:=⟨g,3,none⟩) (Nat.zero_le _) c3).setCell (p:=⟨g,4,none⟩) (Nat.zero_le _) c4
  ⟨hb.os,hb.tape,hb.output,by simp [World.setCell],fun b hb => by
    rw [Below.heap_setCell _ _ _ _ (by simpa using hb),Below.heap_setCell _ _ _ _ (by simpa using hb),Below.heap_setCell _ _ _ _ (by simpa using hb),Below.heap_setCell _ _ _ _ (by simpa using hb),Below.heap_setCell _ _ _ _ (by simpa using hb)]⟩
section
variable {F F' : Nat → Prop} {w w1 w' : World} {g mb : Nat} {vo vt pt : Value} {fs : List FV} {tx : List UInt8} {n : Nat} {D : DataW Unit}
theorem Bld.widen (h : Bld F w g mb vo vt pt fs tx n D) (h1 : ∀ b,F b → F' b) (h2 : ∀ b,F' b → b < w'.heap.size) (hf : ∀ b,F b → w'.heap[b]? = w.heap[b]?) : Bld F' w' g mb vo vt pt fs tx n D ∧ Carry (idleB F g mb vo vt fs) (idleB F' g mb vo vt fs) w w' :=
  ⟨h.keep h1 h2 hf,fun b hb => ⟨⟨h1 b hb.1,hb.2⟩,hf b hb.1⟩⟩
theorem Bld.text_slice (h : Bld F w g mb vo vt pt fs tx n D) : ∃ a c,vt = .slice a tx.length c:=by
  rcases h.text.2 with ⟨rfl,h0⟩ | ⟨c,cap,cur,fz,rfl,_⟩
  · exact ⟨none,0,by rw [h0]⟩
  · exact ⟨_,_,rfl⟩
theorem Bld.text_ne (h : Bld F w g mb vo vt pt fs tx n D) : vt.ownBlock ≠ some g:=fun e => by
  have:=h.inj 3 0 g e rfl
  omega
end
abbrev textV (tx : List UInt8) : Value:=.agg #[.int .i64 2,.string ⟨#[]⟩,.slice none 0 0,.string ⟨tx.toArray⟩,.slice none 0 0]
set_option maxHeartbeats 4000000 in
set_option maxRecDepth 100000 in
theorem bTold {F : Nat → Prop} {w : World} {g mb : Nat} {vo vt pt : Value} {fs : List FV} {tx : List UInt8} {n : Nat} {D : DataW Unit} (h : Bld F w g mb vo vt pt fs tx n D) (h0 : tx ≠ []) :
    Calls Tryz.prog 209 #[.pointer (some ⟨g,0,none⟩)] w fun e w' => e = .returned (textV tx) ∧ Bld (grw F w w') w' g mb vo vt pt fs tx n D ∧ Out F w w' ∧ Carry (idleB F g mb vo vt fs) (idleB (grw F w w') g mb vo vt fs) w w':=by
  have hgl:=h.box.lt
  have bz:=Box.new w 41 [.int .i64 0,.string ⟨#[]⟩,.slice none 0 0,.string ⟨#[]⟩,.slice none 0 0]
  have hb0 : Below w.heap.size w (w.alloc (.cells #[.int .i64 0,.string ⟨#[]⟩,.slice none 0 0,.string ⟨#[]⟩,.slice none 0 0] 41)):=(Below.refl _ w).alloc (Nat.le_refl _) _
  have hs0 : (w.alloc (.cells #[.int .i64 0,.string ⟨#[]⟩,.slice none 0 0,.string ⟨#[]⟩,.slice none 0 0] 41)).heap.size = w.heap.size + 1:=by simp
  change Box (w.alloc (.cells #[.int .i64 0,.string ⟨#[]⟩,.slice none 0 0,.string ⟨#[]⟩,.slice none 0 0] 41)) _ _ _ at bz
  have hB0:=h.below hb0
  have hC0 : Carry (idleB F g mb vo vt fs) (idleB F g mb vo vt fs) w (w.alloc (.cells #[.int .i64 0,.string ⟨#[]⟩,.slice none 0 0,.string ⟨#[]⟩,.slice none 0 0] 41)):=fun b hb => ⟨hb,hb0.block b (h.lt b hb.1)⟩
  have hlt:=h.lt
  replace hlt:=Lib.hid hlt
  replace hC0:=Lib.hid hC0
  replace hB0:=Lib.hid hB0
  replace bz:=Lib.hid bz
  go_enter Tryz.func209,Tryz.ntmps209
  go_wp2_with fail
  obtain ⟨w0,hw0⟩ : ∃ W,w.alloc (.cells #[.int .i64 0,.string ⟨#[]⟩,.slice none 0 0,.string ⟨#[]⟩,.slice none 0 0] 41) = W:=⟨_,rfl⟩
  rw [hw0] at bz hb0 hs0 hB0 hC0 ⊢
  clear hw0
  refine (bxString g _ _ _ _ tx w0 hB0.out.box hB0.out.text hB0.out.text_ne h0).mono ?_
  rintro e w1 ⟨rfl,hbx,htx,hT,hz⟩
  obtain ⟨hB1,hO1,hC1⟩:=hB0.out.txt (pt':=pt) (vt':=vt) hbx hB0.out.ptr htx (fun c hc => .inl hc) hT
  have bz1:=bz.out.keep (w':=w1) (hT.2.2.2.2 w.heap.size (by omega) (by omega) (fun e => by have:=hB0.out.role_lt (i:=3) e; have:=hlt.out _ (h.sub 3 _ e); omega))
  have q0:=bz1.cell (i:=0) rfl
  have q1:=bz1.cell (i:=1) rfl
  have q2:=bz1.cell (i:=2) rfl
  have q3:=bz1.cell (i:=3) rfl
  have q4:=bz1.cell (i:=4) rfl
  have fz:=bz1.free
  have bz2:=boxS5 bz1 (.int .i64 2) (.string ⟨#[]⟩) (.slice none 0 0) (.string ⟨tx.toArray⟩) (.slice none 0 0)
  have hfar:=farS5 w1 w.heap.size (.int .i64 2) (.string ⟨#[]⟩) (.slice none 0 0) (.string ⟨tx.toArray⟩) (.slice none 0 0)
  replace hB1:=Lib.hid hB1
  replace hO1:=Lib.hid hO1
  replace hC1:=Lib.hid hC1
  replace hfar:=Lib.hid hfar
  replace bz2:=Lib.hid bz2
  clear hbx htx hT
  go_wp2_with fail
  obtain ⟨w2,hw2⟩ : ∃ W,(((((w1.setCell ⟨w.heap.size,0,none⟩ (.int .i64 2)).setCell ⟨w.heap.size,1,none⟩ (.string ⟨#[]⟩)).setCell ⟨w.heap.size,2,none⟩ (.slice none 0 0)).setCell ⟨w.heap.size,3,none⟩ (.string ⟨tx.toArray⟩)).setCell ⟨w.heap.size,4,none⟩ (.slice none 0 0)) = W:=⟨_,rfl⟩
  rw [hw2] at bz2 hfar ⊢
  clear hw2 q0 q1 q2 q3 q4 fz
  have q0:=bz2.out.cell (i:=0) rfl
  have q1:=bz2.out.cell (i:=1) rfl
  have q2:=bz2.out.cell (i:=2) rfl
  have q3:=bz2.out.cell (i:=3) rfl
  have q4:=bz2.out.cell (i:=4) rfl
  have hzz:=hfar.out.size
  obtain ⟨hBf,hCf⟩:=hB1.out.widen (F':=grw F w w2) (w':=w2) (fun b hb => hb.elim .inl (fun e => .inr ⟨by omega,by omega⟩)) (fun b hb => hb.elim (fun e => by have:=hlt.out b e; omega) (fun e => e.2)) (fun b hb => hfar.out.block b (fun e => hb.elim (fun h2 => by have:=hlt.out b h2; omega) (fun h2 => by omega)))
  refine bodyPost_ret (v:=textV tx) (by simp [results,Tryz.results209,go_sem,q0,q1,q2,q3,q4]) rfl ⟨rfl,hBf,?_,(hC0.out.trans hC1.out).trans hCf⟩
  exact ⟨hfar.out.os.trans (hO1.out.os.trans hb0.os),hfar.out.tape.trans (hO1.out.tape.trans hb0.tape),hfar.out.output.trans (hO1.out.output.trans hb0.output),by omega,fun b hb hF => (hfar.out.block b (by omega)).trans ((hO1.out.block b (by omega) hF).trans (hb0.block b hb))⟩
section
variable {F F' : Nat → Prop} {w w1 w' : World} {g mb : Nat} {vo vt pt : Value} {fs : List FV} {tx : List UInt8} {n : Nat} {D : DataW Unit}
theorem wk_self (x : Nd) : M7.wk x x.kids = x:=by cases x; rfl
theorem wk_wk (x : Nd) (a b : List Nd) : M7.wk (M7.wk x a) b = M7.wk x b:=rfl
theorem own_sliceW {w : World} {B : Nat} {e : TypeId} {k m : Nat} {v : Value} {xs : List Value} (h : w.ownsRow B e k v m xs) : ∃ a c,v = .slice a m c:=by
  rcases h.2 with ⟨rfl,rfl⟩ | ⟨g,cap,cur,rfl,_⟩
  · exact ⟨none,0,rfl⟩
  · exact ⟨_,_,rfl⟩
theorem frozen_alloc7 {w : World} {o : Obj} {b j : Nat} (hb : b < w.heap.size) : (w.alloc o).frozen? ⟨b,j,none⟩ = w.frozen? ⟨b,j,none⟩:=World.frozen?_of_block (a:=⟨b,j,none⟩) (Below.heap_alloc w o b hb)
theorem Bld.last_cell {A : List FV} {f : FV} {go cap : Nat} (h : Bld F w g mb vo vt pt (A ++ [f]) tx n D) (hvo : vo = .slice (some ⟨go,0,none⟩) (A.length + 1) cap) (j : Nat) (u : Value) (hj : j < 6) (hu : f.cells[j]? = some u) : w.cell? ⟨go,A.length * 6 + j,none⟩ = some u ∧ w.frozen? ⟨go,A.length * 6 + j,none⟩ = false:=by
  have hr:=h.row
  rw [hvo,List.length_append] at hr
  exact own_cell hr _ _ ((cellsF_last A f j hj).trans hu)
theorem Bld.vo_snoc {A : List FV} {f : FV} (h : Bld F w g mb vo vt pt (A ++ [f]) tx n D) : ∃ go cap,vo = .slice (some ⟨go,0,none⟩) (A.length + 1) cap:=by
  obtain ⟨go,cap,e,_⟩:=h.open_slice (by simp)
  exact ⟨go,cap,by rw [e]; simp⟩
theorem Bld.same_grw (h : Bld F w g mb vo vt pt fs tx n D) : Bld (grw F w w) w g mb vo vt pt fs tx n D ∧ Out F w w ∧ Carry (idleB F g mb vo vt fs) (idleB (grw F w w) g mb vo vt fs) w w:=by
  obtain ⟨h1,h2⟩:=h.widen (F':=grw F w w) (w':=w) (fun _ h => .inl h) (grw_lt h.lt (Nat.le_refl _)) (fun _ _ => rfl)
  exact ⟨h1,Out.refl _ _,h2⟩
theorem Carry.grw {I : Nat → Prop} {w1 w2 : World} {vo' vt' : Value} {fs' : List FV} (h : Carry I (idleB (grw (grw F w w1) w1 w2) g mb vo' vt' fs') w w2) (h1 : w.heap.size ≤ w1.heap.size) (h2 : w1.heap.size ≤ w2.heap.size) : Carry I (idleB (Go.Proofs.YteefodibpjgicaaGreat.grw F w w2) g mb vo' vt' fs') w w2:=fun b hb => ⟨⟨(grw_grw h1 h2 b).1 (h b hb).1.1,(h b hb).1.2⟩,(h b hb).2⟩
theorem Bld.grw2 {w2 : World} (h : Bld (grw (grw F w w1) w1 w2) w2 g mb vo vt pt fs tx n D) (h1 : w.heap.size ≤ w1.heap.size) (h2 : w1.heap.size ≤ w2.heap.size) : Bld (grw F w w2) w2 g mb vo vt pt fs tx n D:=h.iff (grw_grw h1 h2)
end
def BSt (F : Nat → Prop) (w : World) (g mb : Nat) (vo vt : Value) (fs : List FV) (w' : World) (vo' vt' pt' : Value) (fs' : List FV) (tx' : List UInt8) (n' : Nat) (D' : DataW Unit) : Prop :=
  Bld (grw F w w') w' g mb vo' vt' pt' fs' tx' n' D' ∧ Out F w w' ∧ Carry (idleB F g mb vo vt fs) (idleB (grw F w w') g mb vo' vt' fs') w w'
theorem BSt.trans {F : Nat → Prop} {w w1 w2 : World} {g mb : Nat} {vo vt vo1 vt1 pt1 vo2 vt2 pt2 : Value} {fs fs1 fs2 : List FV} {tx1 tx2 : List UInt8} {n1 n2 : Nat} {D1 D2 : DataW Unit} (h : BSt F w g mb vo vt fs w1 vo1 vt1 pt1 fs1 tx1 n1 D1) (k : BSt (grw F w w1) w1 g mb vo1 vt1 fs1 w2 vo2 vt2 pt2 fs2 tx2 n2 D2) : BSt F w g mb vo vt fs w2 vo2 vt2 pt2 fs2 tx2 n2 D2 :=
  ⟨k.1.grw2 h.2.1.size k.2.1.size,h.2.1.trans k.2.1,(h.2.2.trans k.2.2).grw h.2.1.size k.2.1.size⟩
theorem Bld.st_below {F : Nat → Prop} {w w' : World} {g mb : Nat} {vo vt pt : Value} {fs : List FV} {tx : List UInt8} {n : Nat} {D : DataW Unit} (h : Bld F w g mb vo vt pt fs tx n D) (hb : Below w.heap.size w w') : BSt F w g mb vo vt fs w' vo vt pt fs tx n D :=
  ⟨h.grow hb,⟨hb.os,hb.tape,hb.output,hb.size,fun b hb' _ => hb.block b hb'⟩,h.carry_below hb⟩
set_option maxHeartbeats 8000000 in
set_option maxRecDepth 100000 in
theorem bSettle {F : Nat → Prop} {w : World} {g mb : Nat} {vo vt pt : Value} {A : List FV} {f : FV} {tx : List UInt8} {n : Nat} {D : DataW Unit} (h : Bld F w g mb vo vt pt (A ++ [f]) tx n D) (hA : A.length ≤ 1000000) (hfl : f.x.kids.length ≤ 1000000) :
    Calls Tryz.prog 223 #[.pointer (some ⟨g,0,none⟩)] w fun e w' => e = .returned (.tuple #[]) ∧ ∃ vt' pt' f',f'.x = M7.wk f.x (f.x.kids ++ M7.endK tx) ∧ f'.nx = f.nx ∧ BSt F w g mb vo vt (A ++ [f]) w' vo vt' pt' (A ++ [f']) [] n D:=by
  obtain ⟨go,cap,hvo⟩:=h.vo_snoc
  obtain ⟨at_,ct,hvt⟩:=h.text_slice
  have b2:=h.box.cell (i:=2) rfl
  rw [hvt] at b2
  have hL:=bxLen g _ _ _ w b2
  by_cases htx : tx = []
  · have hst : Hid (∃ vt' pt' f',f'.x = M7.wk f.x (f.x.kids ++ M7.endK tx) ∧ f'.nx = f.nx ∧ BSt F w g mb vo vt (A ++ [f]) w vo vt' pt' (A ++ [f']) [] n D):=by
      subst htx
      exact ⟨vt,pt,f,by rw [M7.endK_nil,List.append_nil,wk_self],rfl,h.same_grw⟩
    subst htx
    replace hL:=Lib.hid hL
    clear h
    go_enter Tryz.func223,Tryz.ntmps223
    go_wp2_with fail
    refine hL.out.mono ?_
    rintro e w1 ⟨rfl,rfl⟩
    go_wp2_with fail
    exact bodyPost_ret (v:=.tuple #[]) (by simp [results,Tryz.results223,go_sem]) rfl ⟨rfl,hst.out⟩
  · have hpos : (tx.length : Int) ≠ 0:=by
      have:=List.length_pos_iff.2 htx
      omega
    have hT:=Lib.hid (fun W (hW : Bld F W g mb vo vt pt (A ++ [f]) tx n D) => bTold hW htx)
    replace hL:=Lib.hid hL
    obtain ⟨j0,hj0,hj00,hj01,hj02⟩:=info_parts infoN
    obtain ⟨xs,o1,rep1⟩:=h.kids f (by simp)
    obtain ⟨ak,ck,hvk⟩:=own_sliceW o1
    go_enter Tryz.func223,Tryz.ntmps223
    go_wp2_with fail
    refine hL.out.mono ?_
    rintro e w1 ⟨rfl,rfl⟩
    have k0:=h.box.cell (i:=0) rfl
    rw [hvo] at k0
    obtain ⟨k4,f4⟩:=h.last_cell hvo 4 f.vk (by decide) rfl
    have hgk : f.vk.ownBlock ≠ some g:=fun e => by
      have:=h.inj (A.length + 4) 0 g ((role_last ..).trans e) rfl; omega
    have hgok : f.vk.ownBlock ≠ some go:=fun e => by
      have:=h.inj (A.length + 4) 2 go ((role_last ..).trans e) (by rw [hvo]; rfl); omega
    have hgol : go < w.heap.size:=h.role_lt (i:=2) (by rw [hvo]; rfl)
    have hgl:=h.box.lt
    have hkk:=fun W (hW : Bld (grw F w.drew.drew.drew W) W g mb vo vt pt (A ++ [f]) tx n D) => (hW.last_cell hvo 4 f.vk (by decide) rfl)
    have hk0 : ∀ W (hW : Bld (grw F w.drew.drew.drew W) W g mb vo vt pt (A ++ [f]) tx n D),W.cell? ⟨g,0,none⟩ = some (.slice (some ⟨go,0,none⟩) (A.length + 1) cap):=fun W hW => by
      have:=hW.box.cell (i:=0) rfl
      rw [hvo] at this
      exact this
    replace hkk:=Lib.hid hkk
    replace hk0:=Lib.hid hk0
    replace h:=Lib.hid h
    rw [hvk] at k4 hgk hgok hkk
    go_wp2_with fail
    go_region_law
      (first
        | (go_simp; go_at_call 220; refine (bInner (by assumption) hA).mono ?_; rintro e w' ⟨rfl,rfl⟩)
        | (go_simp; go_at_call 209; refine (hT.out _ h.out.drew.drew.drew).mono ?_; rintro e wt ⟨rfl,hBt,hOt,hCt⟩; have t0:=hk0.out _ hBt; obtain ⟨t4,tf⟩:=hkk.out _ hBt; have tz : go < wt.heap.size:=Nat.lt_of_lt_of_le hgol hOt.size; obtain ⟨xs,o1,rep1⟩:=hBt.kids f (by simp); rw [hvk] at o1; have tz1 : g < wt.heap.size:=hBt.box.lt; replace rep1:=Lib.hid rep1; replace hBt:=Lib.hid hBt; replace hOt:=Lib.hid hOt; replace hCt:=Lib.hid hCt)
        | (refine step_append_lies _ (by rfl) _ _ _ (by rfl) 0 41 j0 _ 5 88 Tryz.underlying25 hj0 hj00 hj01 hj02 rfl (by omega) (.slice ak f.x.kids.length ck) f.x.kids.length xs (by rfl) (o1.alloc _) ⟨wt.heap.size,0,none⟩ 1 1 [.int .i64 2,.string ⟨#[]⟩,.slice none 0 0,.string ⟨tx.toArray⟩,.slice none 0 0] (by rfl) (by rfl) (World.news_of_block (cs:=#[.int .i64 2,.string ⟨#[]⟩,.slice none 0 0,.string ⟨tx.toArray⟩,.slice none 0 0]) (t:=41) (fr:=(0,0)) (heap_alloc_new wt _)) (by simp [Value.oneCell']) (by omega) (by unfold maxLen; omega) (by omega) (by simp) (wt.heap.size + 1) (by simp) ?_; intro gg c2 w5 hown5 hgrow hat hlt; have f5 : w5.frozen? ⟨go,A.length * 6 + 4,none⟩ = false:=(hgrow.frozen_far ⟨go,A.length * 6 + 4,none⟩ (Nat.lt_of_lt_of_le tz (by simp)) (Ne.symm hgok)).trans ((frozen_alloc7 tz).trans tf); have k5 : w5.cell? ⟨go,A.length * 6 + 4,none⟩ = some (.slice ak f.x.kids.length ck):=(hgrow.cell_far ⟨go,A.length * 6 + 4,none⟩ (Nat.lt_of_lt_of_le tz (by simp)) (Ne.symm hgok)).trans ((World.cell?_of_block (a:=⟨go,A.length * 6 + 4,none⟩) (Below.heap_alloc wt _ go tz)).trans t4)))
    all_goals
      go_wp2_with fail
      have s0 : BSt F w g mb vo vt (A ++ [f]) wt vo vt pt (A ++ [f]) tx n D:=⟨hBt.out,⟨hOt.out.os,hOt.out.tape,hOt.out.output,hOt.out.size,hOt.out.block⟩,hCt.out⟩
      have s1:=s0.1.st_below ((Below.refl _ wt).alloc (Nat.le_refl _) (.cells #[.int .i64 2,.string ⟨#[]⟩,.slice none 0 0,.string ⟨tx.toArray⟩,.slice none 0 0] 41))
      have rep2:=RepC.mono (fun b hb => (s1.2.2 b hb).1) _ _ (RepC.keep (fun b hb => (s1.2.2 b hb).2) _ _ rep1.out)
      have s2:=s1.1.kid (x:=.mk 2 ⟨#[]⟩ [] ⟨tx.toArray⟩ []) (va:=.slice none 0 0) (vk:=.slice none 0 0) hvo ⟨Row.nil _ _ _,RepN.nil _ _⟩ rep2 (by rw [hvk]; exact hgrow) hown5 (by
        rw [hvk]
        rcases hat with h1 | h1
        · exact .inl h1
        · exact .inr (by rw [h1]; simp))
      have s3 : BSt F w g mb vo vt (A ++ [f]) _ vo vt pt _ tx n D:=s0.trans (s1.trans s2)
      clear s0 s1 s2 rep2
      obtain ⟨w6,hw6⟩ : ∃ W,w5.setCell ⟨go,A.length * 6 + 4,none⟩ (.slice (some ⟨gg,0,none⟩) (f.x.kids.length + 1) c2) = W:=⟨_,rfl⟩
      rw [hw6] at s3 ⊢
      refine (bxReset g _ _ _ _ w6 s3.1.box).mono ?_
      rintro e w7 ⟨rfl,hw7⟩
      have bx7:=(s3.1.box.set 1 (.pointer none)).set 2 (.slice none 0 0)
      simp only [List.set_cons_succ,List.set_cons_zero] at bx7
      rw [← hw7] at bx7
      have s4:=s3.1.txt (w':=w7) (tx':=[]) bx7 (.inl rfl) (World.ownsRowF_nil _ _ _ _) (fun c hc => by cases hc) ⟨by rw [hw7]; rfl,by rw [hw7]; rfl,by rw [hw7]; rfl,by rw [hw7]; simp,fun b hb hg _ => by rw [hw7,Below.heap_setCell _ _ _ _ hg,Below.heap_setCell _ _ _ _ hg]⟩
      have s5 : BSt F w g mb vo vt (A ++ [f]) w7 vo (.slice none 0 0) (.pointer none) _ [] n D:=s3.trans s4
      replace s5:=Lib.hid s5
      clear s3 s4 bx7 hw7 hw6 hgrow hown5 hat hBt hOt hCt rep1 o1 hT hL hkk hk0 h
      go_wp2_with fail
      go_end0
      exact ⟨rfl,_,_,⟨M7.wk f.x (f.x.kids ++ [.mk 2 ⟨#[]⟩ [] ⟨tx.toArray⟩ []]),f.va,_,f.nx⟩,by rw [M7.endK_cons htx],rfl,s5.out⟩
theorem BSt.start {F : Nat → Prop} {w w0 w1 : World} {g mb : Nat} {vo vt vo1 vt1 pt1 : Value} {fs fs1 : List FV} {tx1 : List UInt8} {n1 : Nat} {D1 : DataW Unit} (hb : Below w.heap.size w w0) (hlt : ∀ b,F b → b < w.heap.size) (h : BSt F w0 g mb vo vt fs w1 vo1 vt1 pt1 fs1 tx1 n1 D1) : BSt F w g mb vo vt fs w1 vo1 vt1 pt1 fs1 tx1 n1 D1:=by
  obtain ⟨h1,h2,h3⟩:=h
  have hz:=hb.size
  have hz1:=h2.size
  have hF : ∀ b,grw F w0 w1 b → grw F w w1 b:=fun b hb => hb.elim .inl (fun e => .inr ⟨by omega,e.2⟩)
  refine ⟨h1.keep hF (grw_lt hlt (by omega)) (fun _ _ => rfl),⟨h2.os.trans hb.os,h2.tape.trans hb.tape,h2.output.trans hb.output,by omega,fun b hb' hF' => (h2.block b (by omega) hF').trans (hb.block b hb')⟩,fun b hb' => ?_⟩
  obtain ⟨q1,q2⟩:=h3 b hb'
  exact ⟨⟨hF b q1.1,q1.2⟩,q2.trans (hb.block b (hlt b hb'.1))⟩
set_option maxHeartbeats 8000000 in
set_option maxRecDepth 100000 in
theorem bAdd {F : Nat → Prop} {w : World} {g mb : Nat} {vo vt pt : Value} {A : List FV} {f : FV} {tx : List UInt8} {n : Nat} {D : DataW Unit} (h : Bld F w g mb vo vt pt (A ++ [f]) tx n D) (hA : A.length ≤ 1000000) (hfl : f.x.kids.length ≤ 1000000) {x : Nd} {va vk : Value} (hx : RepV (idleB F g mb vo vt (A ++ [f])) w x va vk) :
    Calls Tryz.prog 222 #[.pointer (some ⟨g,0,none⟩),x.val va vk] w fun e w' => e = .returned (.tuple #[]) ∧ ∃ vt' pt' f',f'.x = M7.wk f.x (f.x.kids ++ M7.endK tx ++ [x]) ∧ f'.nx = f.nx ∧ BSt F w g mb vo vt (A ++ [f]) w' vo vt' pt' (A ++ [f']) [] n D:=by
  obtain ⟨go,cap,hvo⟩:=h.vo_snoc
  obtain ⟨j0,hj0,hj00,hj01,hj02⟩:=info_parts infoN
  obtain ⟨aa,ca,hva⟩:=hx.at_.slice
  obtain ⟨akk,ckk,hvkk⟩:=hx.kids.slice
  have bz:=Box.new w 41 [.int .i64 x.kind,.string x.name,va,.string x.text,vk]
  have hb0 : Below w.heap.size w (w.alloc (.cells #[.int .i64 x.kind,.string x.name,va,.string x.text,vk] 41)):=(Below.refl _ w).alloc (Nat.le_refl _) _
  have hs0 : (w.alloc (.cells #[.int .i64 x.kind,.string x.name,va,.string x.text,vk] 41)).heap.size = w.heap.size + 1:=by simp
  change Box (w.alloc (.cells #[.int .i64 x.kind,.string x.name,va,.string x.text,vk] 41)) _ _ _ at bz
  have hB0:=h.below hb0
  have hx0 : RepV (idleB F g mb vo vt (A ++ [f])) (w.alloc (.cells #[.int .i64 x.kind,.string x.name,va,.string x.text,vk] 41)) x va vk:=hx.keep (fun b hb => hb0.block b (h.lt b hb.1))
  have hlt:=h.lt
  have hone : ∀ u ∈ ([.int .i64 x.kind,.string x.name,va,.string x.text,vk] : List Value),u.oneCell' = true:=by
    rw [hva,hvkk]; simp [Value.oneCell']
  clear hva hvkk
  replace hlt:=Lib.hid hlt
  replace hB0:=Lib.hid hB0
  replace hx0:=Lib.hid hx0
  replace bz:=Lib.hid bz
  go_enter Tryz.func222,Tryz.ntmps222
  go_wp2_with fail
  obtain ⟨w0,hw0⟩ : ∃ W,w.alloc (.cells #[.int .i64 x.kind,.string x.name,va,.string x.text,vk] 41) = W:=⟨_,rfl⟩
  rw [hw0] at bz hb0 hs0 hB0 hx0 ⊢
  clear hw0
  refine (bSettle hB0.out hA hfl).mono ?_
  rintro e w1 ⟨rfl,vt1,pt1,f1,hf1x,hf1n,s0⟩
  obtain ⟨xs,o1,rep1⟩:=s0.1.kids f1 (by simp)
  obtain ⟨ak,ck,hvk⟩:=own_sliceW o1
  have k0:=s0.1.box.cell (i:=0) rfl
  rw [hvo] at k0
  obtain ⟨k4,f4⟩:=s0.1.last_cell hvo 4 f1.vk (by decide) rfl
  have hgk : f1.vk.ownBlock ≠ some g:=fun e => by
    have:=s0.1.inj (A.length + 4) 0 g ((role_last ..).trans e) rfl; omega
  have hgok : f1.vk.ownBlock ≠ some go:=fun e => by
    have:=s0.1.inj (A.length + 4) 2 go ((role_last ..).trans e) (by rw [hvo]; rfl); omega
  have hgol : go < w1.heap.size:=s0.1.role_lt (i:=2) (by rw [hvo]; rfl)
  have hgl:=s0.1.box.lt
  have hz1:=s0.2.1.size
  have bz1:=bz.out.keep (w':=w1) (s0.2.1.block _ (by omega) (fun e => by have:=hlt.out _ e; omega))
  have p0:=bz1.cell (i:=0) rfl
  have p1:=bz1.cell (i:=1) rfl
  have p2:=bz1.cell (i:=2) rfl
  have p3:=bz1.cell (i:=3) rfl
  have p4:=bz1.cell (i:=4) rfl
  have hfl1 : f1.x.kids.length ≤ 1000001:=by
    rw [hf1x]
    show (f.x.kids ++ M7.endK tx).length ≤ _
    rw [List.length_append]
    have : (M7.endK tx).length ≤ 1:=by unfold M7.endK; split <;> simp
    omega
  rw [hvk] at k4 hgk hgok
  have o1':=o1
  rw [hvk] at o1'
  replace s0:=Lib.hid s0
  replace rep1:=Lib.hid rep1
  replace hf1x:=Lib.hid hf1x
  clear bz1 bz h o1 hx
  go_wp2_with fail
  go_region_law
    (first
      | (go_simp; go_at_call 220; refine (bInner (go:=go) (cap:=cap) (by first | assumption | (simp [*,World.cell?_alloc_some])) hA).mono ?_; rintro e w' ⟨rfl,rfl⟩)
      | (refine step_append_lies _ (by rfl) _ _ _ (by rfl) 0 41 j0 _ 5 88 Tryz.underlying25 hj0 hj00 hj01 hj02 rfl (by omega) (.slice ak f1.x.kids.length ck) f1.x.kids.length xs (by rfl) ((o1'.alloc _).drew.drew.drew) ⟨w1.heap.size,0,none⟩ 1 1 [.int .i64 x.kind,.string x.name,va,.string x.text,vk] (by rfl) (by rfl) (World.news_of_block (cs:=#[.int .i64 x.kind,.string x.name,va,.string x.text,vk]) (t:=41) (fr:=(0,0)) (heap_alloc_new w1 _)) hone (by omega) (by unfold maxLen; omega) (by omega) (by simp) (w1.heap.size + 1) (by simp) ?_; intro gg c2 w5 hown5 hgrow hat hlt5; have f5 : w5.frozen? ⟨go,A.length * 6 + 4,none⟩ = false:=(hgrow.frozen_far ⟨go,A.length * 6 + 4,none⟩ (Nat.lt_of_lt_of_le hgol (by simp)) (Ne.symm hgok)).trans ((frozen_alloc7 hgol).trans f4); have k5 : w5.cell? ⟨go,A.length * 6 + 4,none⟩ = some (.slice ak f1.x.kids.length ck):=(hgrow.cell_far ⟨go,A.length * 6 + 4,none⟩ (Nat.lt_of_lt_of_le hgol (by simp)) (Ne.symm hgok)).trans ((World.cell?_of_block (a:=⟨go,A.length * 6 + 4,none⟩) (Below.heap_alloc w1 _ go hgol)).trans k4)))
  all_goals
    go_wp2_with fail
    have hb1 : Below w1.heap.size w1 (w1.alloc (.cells #[.int .i64 x.kind,.string x.name,va,.string x.text,vk] 41)):=(Below.refl _ w1).alloc (Nat.le_refl _) _
    have s1:=s0.out.1.st_below hb1
    have rep2:=RepC.mono (fun b hb => (s1.2.2 b hb).1) _ _ (RepC.keep (fun b hb => (s1.2.2 b hb).2) _ _ rep1.out)
    have s2:=s1.1.kid (x:=x) (va:=va) (vk:=vk) hvo ((s0.out.2.2.trans s1.2.2).rep hx0.out) rep2 (w2:=w5) (by rw [hvk]; exact ⟨hgrow.os,hgrow.tape,hgrow.output,hgrow.size,hgrow.block⟩) hown5 (by
      rw [hvk]
      rcases hat with h1 | h1
      · exact .inl h1
      · exact .inr (by rw [h1]; simp))
    have s3 : BSt F w g mb vo vt (A ++ [f]) _ vo vt1 pt1 _ [] n D:=(s0.out.trans (s1.trans s2)).start hb0 hlt.out
    replace s3:=Lib.hid s3
    clear s1 s2 rep2 hgrow hown5 hat s0 rep1 o1'
    go_end0
    exact ⟨rfl,_,_,⟨M7.wk f1.x (f1.x.kids ++ [x]),f1.va,_,f1.nx⟩,by rw [hf1x.out]; rfl,hf1n,s3.out⟩
end Go.Proofs.YteefodibpjgicaaGreat
