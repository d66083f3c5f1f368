/- Texts joined: Math7d, Ref07t, Ref04. -/
import Derived.BigQuiet
import Derived.Test.YteefodibpjgicaaGreatA7
import Derived.Test.YteefodibpjgicaaGreatA26
import Derived.Test.YteefodibpjgicaaGreatA33
import Derived.Test.YteefodibpjgicaaGreatA39
import Derived.Test.YteefodibpjgicaaGreatA50
import Derived.Test.YteefodibpjgicaaGreatA51
namespace Go.Proofs.YteefodibpjgicaaGreat
namespace M7
open M3 (push)
theorem dt_put {d : Nat} {L : List Nd} (x : Nd) (h : okD d L) : dtN (putN d x L) ≤ dtN L + (x.text.size + dtN x.kids):=by
  induction d generalizing L with
  | zero => exact dt_push L x
  | succ d ih =>
    rcases List.eq_nil_or_concat L with rfl | ⟨A,y,rfl⟩
    · exact h.elim
    · rw [List.concat_eq_append,okD_snoc] at *
      rw [putN_snoc,dt_append,dt_append,dt_cons,dt_cons]
      show _ + (y.text.size + dtN (putN d x y.kids) + _) ≤ _
      have:=ih h
      omega
theorem dt_step {s : St} (t : Tok) (h : s.ok) : dtN (step s t).L ≤ dtN s.L + t.text.size:=by
  unfold step
  split
  · have h1:=okD_pre h (closeAt_le (openN s.d s.L) t.name s.d)
    have:=dt_put (elT t) h1
    have e : (elT t).text.size + dtN (elT t).kids = 0:=by show 0 + dtN [] = 0; rw [dt_nil]
    show dtN (putN _ _ _) ≤ _
    omega
  split
  · split <;> exact Nat.le_add_right _ _
  split
  · have:=dt_put (txT t) h
    have e : (txT t).text.size + dtN (txT t).kids = t.text.size:=by show t.text.size + dtN [] = _; rw [dt_nil]; rfl
    show dtN (putN _ _ _) ≤ _
    omega
  split
  · have:=dt_put (coT t) h
    have e : (coT t).text.size + dtN (coT t).kids = t.text.size:=by show t.text.size + dtN [] = _; rw [dt_nil]; rfl
    show dtN (putN _ _ _) ≤ _
    omega
  · exact Nat.le_add_right _ _
theorem dt_run (l : List Tok) : dtN (run l).L ≤ (l.map fun t => t.text.size).sum:=by
  have key : ∀ (l : List Tok) (s : St),s.ok → dtN (l.foldl step s).L ≤ dtN s.L + (l.map fun t => t.text.size).sum:=by
    intro l
    induction l with
    | nil => intro s _; exact Nat.le_refl _
    | cons t r ih =>
      intro s h
      have h1:=ih _ (step_ok t h)
      have h2:=dt_step t h
      rw [List.foldl_cons,List.map_cons,List.sum_cons]
      omega
  have:=key l ⟨[],0⟩ trivial
  have e : dtN (St.mk [] 0).L = 0:=dt_nil
  unfold run
  omega
theorem ok_weight {d : Nat} : ∀ {L : List Nd},okD d L → d ≤ M3.weight L:=by
  induction d with
  | zero => intro L _; exact Nat.zero_le _
  | succ d ih =>
    intro L h
    rcases List.eq_nil_or_concat L with rfl | ⟨A,y,rfl⟩
    · exact h.elim
    · rw [List.concat_eq_append,okD_snoc] at *
      rw [M3.weight_append,M3.weight_cons]
      have:=ih h
      omega
end M7
end Go.Proofs.YteefodibpjgicaaGreat

namespace Go.Proofs.YteefodibpjgicaaGreat
open Go.RowKit
theorem sum_take_le {α : Type} (f : α → Nat) (l : List α) (i : Nat) : ((l.take i).map f).sum ≤ (l.map f).sum:=by
  have : (l.map f).sum = ((l.take i).map f).sum + ((l.drop i).map f).sum:=by rw [← List.sum_append,← List.map_append,List.take_append_drop]
  omega
theorem le_sum_mem {α : Type} (f : α → Nat) (l : List α) (a : α) (h : a ∈ l) : f a ≤ (l.map f).sum:=by
  induction l with
  | nil => cases h
  | cons b r ih =>
    rw [List.map_cons,List.sum_cons]
    rcases List.mem_cons.1 h with rfl | h
    · omega
    · have:=ih h; omega
def Sx (S : Nat → Prop) (wo wr : World) (b : Nat) : Prop:=S b ∨ (wo.heap.size < b ∧ b < wr.heap.size)
def TrV (S : Nat → Prop) (wo W : World) (s : M7.St) (vL vP : Value) : Prop:=RepN (Sx S wo W) W vL s.L ∧ Ints (Sx S wo W) W vP (M7.pathN s.d s.L) ∧ Below wo.heap.size wo W
def TrB (S : Nat → Prop) (wo W : World) (s : M7.St) : Prop:=∃ vL vP,TrV S wo W s vL vP ∧ Box W wo.heap.size 84 [vL,vP]
def TrI (S : Nat → Prop) (wo wr : World) (s : M7.St) (f : Nat → Bool) (t : Nat → Value) (W : World) : Prop :=
  (f 5 = false → W = wr.drew) ∧ (f 5 = true → f 6 = false → ∃ vL vP z0 z1,t 5 = .agg #[vL,vP] ∧ TrV S wo W s vL vP ∧ Box W wo.heap.size 84 [z0,z1]) ∧ (f 6 = true → TrB S wo W s)
section
variable {S : Nat → Prop} {wo wr W : World} {s : M7.St} {f : Nat → Bool} {t : Nat → Value} {vL vP : Value}
theorem TrI.same (h : TrI S wo wr s f t W) (i : Nat) (v : Value) (h5 : 5 ≠ i) (h6 : 6 ≠ i) : TrI S wo wr s (updF f i) (updT t i v) W:=by
  unfold TrI
  rw [updF_ne _ h5,updF_ne _ h6,updT_ne _ _ h5]
  exact h
theorem TrV.store (h : TrV S wo W s vL vP) {z0 z1 : Value} (hb : Box W wo.heap.size 84 [z0,z1]) (hS : ∀ b,S b → b < wo.heap.size) : TrB S wo ((W.setCell ⟨wo.heap.size,0,none⟩ vL).setCell ⟨wo.heap.size,1,none⟩ vP) s:=by
  obtain ⟨h1,h2,h3⟩:=h
  have hsz : ((W.setCell ⟨wo.heap.size,0,none⟩ vL).setCell ⟨wo.heap.size,1,none⟩ vP).heap.size = W.heap.size:=by simp [World.setCell]
  have hk : ∀ b,Sx S wo W b → ((W.setCell ⟨wo.heap.size,0,none⟩ vL).setCell ⟨wo.heap.size,1,none⟩ vP).heap[b]? = W.heap[b]?:=fun b hb => by
    have hne : b ≠ wo.heap.size:=by
      rcases hb with hb | hb
      · have:=hS b hb; omega
      · omega
    rw [Below.heap_setCell _ _ _ _ (by simpa using hne),Below.heap_setCell _ _ _ _ (by simpa using hne)]
  have hm : ∀ b,Sx S wo W b → Sx S wo ((W.setCell ⟨wo.heap.size,0,none⟩ vL).setCell ⟨wo.heap.size,1,none⟩ vP) b:=fun b hb => by
    rcases hb with hb | hb
    · exact Or.inl hb
    · exact Or.inr ⟨hb.1,by rw [hsz]; exact hb.2⟩
  exact ⟨_,_,⟨(h1.keep hk).mono hm,Row.mono (Row.keep h2 hk) hm,two_below h3 _ _ (Nat.le_refl _)⟩,hb.two _ _⟩
end
set_option maxHeartbeats 8000000 in
set_option maxRecDepth 100000 in
theorem ref07Tree (S : Nat → Prop) (v : Value) (l : List Tok) (w : World) (hS : ∀ b,S b → b < w.heap.size) (hr : TokR S w v l) (hl : l.length ≤ 1000000) (hw : (l.map M7.tokW).sum ≤ 1000000) (ht : (l.map fun t => t.text.size).sum ≤ 536870912) :
    Calls Tryz.prog 42 #[v] w (ShrP S (M7.tree l) w):=by
  obtain ⟨a,cap,rfl⟩:=hr.slice
  obtain ⟨wo,rfl⟩ : ∃ wo : World,wo = w:=⟨_,rfl⟩
  have hwi : ∀ i,M3.weight (M7.run (l.take i)).L ≤ 1000000:=fun i => Nat.le_trans (M7.weight_run _) (Nat.le_trans (sum_take_le M7.tokW l i) hw)
  have hti : ∀ i,dtN (M7.run (l.take i)).L ≤ 536870912:=fun i => Nat.le_trans (M7.dt_run _) (Nat.le_trans (sum_take_le (fun t : Tok => t.text.size) l i) ht)
  have htt : ∀ tk ∈ l,tk.text.size ≤ 536870912:=fun tk hm => Nat.le_trans (le_sum_mem (fun t : Tok => t.text.size) l tk hm) ht
  replace hwi:=Lib.hid hwi
  replace hti:=Lib.hid hti
  replace htt:=Lib.hid htt
  clear hw ht
  go_enter Tryz.func42,Tryz.ntmps42
  go_wp2_with fail
  have hbx : TrB S wo (wo.alloc (.cells #[.slice none 0 0,.slice none 0 0] 84)) ⟨[],0⟩:=⟨_,_,⟨RepN.nil _ _,Row.nil _ _ _,(Below.refl _ _).alloc (Nat.le_refl _) _⟩,Box.new wo 84 [.slice none 0 0,.slice none 0 0]⟩
  replace hbx:=Lib.hid hbx
  go_loopw [4] (fun u4 wr => ∃ i : Nat,i ≤ l.length ∧ u4 = .int .i64 (i : Int) ∧ Hid (TrB S wo wr (M7.run (l.take i)))) (fun u4 _ => l.length - (intOf u4).toNat)
  case atStart => exact ⟨0,by omega,rfl,hbx⟩
  case round =>
    obtain ⟨i,hi,rfl,hTB⟩:=hrel
    clear hbx
    obtain ⟨vL,vP,⟨hrL,hrP,hb⟩,bx⟩:=hTB.out
    have hz:=hb.size
    obtain ⟨aL,cL,rfl⟩:=hrL.slice
    obtain ⟨aP,cP,rfl⟩:=Row.slice hrP
    have x0:=bx.cell (i:=0) rfl
    have x1:=bx.cell (i:=1) rfl
    have hgl:=bx.lt
    by_cases hlt : i < l.length
    · obtain ⟨b,off,va,rfl,hSb,hat,c0,c1,c2,c3⟩:=(hr.keep (w':=wr) (fun b hb' => hb.block b (hS b hb'))).at_ i hlt
      have hbl:=hS b hSb
      have hok:=M7.run_ok (l.take i)
      have hdw:=M7.ok_weight hok
      have h1:=hwi.out i
      have h2:=hti.out i
      have h3:=htt.out _ (List.getElem_mem hlt)
      have htk : M7.run (l.take (i + 1)) = M7.step (M7.run (l.take i)) l[i]:=by
        rw [List.take_succ_eq_append_getElem hlt,M7.run_snoc]
      generalize l[i] = tk at *
      generalize M7.run (l.take i) = s at *
      obtain ⟨av,cv,rfl⟩:=hat.slice
      have hPut:=Lib.hid (ref07Put (Sx S wo wr) (.slice aL s.L.length cL) (.slice aP (M7.pathN s.d s.L).length cP) (.slice av tk.attrs.length cv) s tk wr.drew hok (by omega) h1 (by omega) (fun b hb' => by
        show b < wr.heap.size
        rcases hb' with h | h
        · have:=hS b h; omega
        · exact h.2) (hrL.keep fun _ _ => rfl) (Row.keep hrP fun _ _ => rfl) ((Row.keep hat fun _ _ => rfl).mono fun b h => Or.inl h))
      generalize M7.pathN s.d s.L = pa at *
      generalize hs' : M7.step s tk = s' at *
      replace htk:=Lib.hid htk
      clear hTB hrL hrP hok hdw h1 h2 h3 hat hs'
      replace bx:=Lib.hid bx
      go_upto_region 5 with fail
      refine wp_region_knownC (n:=7) ([some (.agg #[.slice aL s.L.length cL,.slice aP pa.length cP]),some (Value.slice (some ⟨b,off,none⟩) l.length cap),some (Value.int IntKind.i64 (i : Int)),some (.pointer (some ⟨b,off + i * 4,none⟩)),some (.agg #[.int .i64 tk.kind,.string tk.name,.slice av tk.attrs.length cv,.string tk.text]),none,none] : List (Option Value)) (fun t => ⟨#[Value.slice (some ⟨b,off,none⟩) l.length cap,undef,Value.slice none 0 0,Value.pointer (some ⟨wo.heap.size,0,none⟩),Value.int IntKind.i64 (i : Int),Value.int IntKind.i64 (i : Int),Value.slice (some ⟨b,off,none⟩) l.length cap,Value.int IntKind.i64 (l.length : Int),Value.bool true,u9,u10,t 0,t 1,t 2,t 3,t 4,t 5,undef,undef],[]⟩) (fun f t W => TrI S wo wr s' f t W) (fun j => match j with | 0 => u11 | 1 => u12 | 2 => u13 | 3 => u14 | 4 => u15 | 5 => u16 | _ => undef) (by kernel_rfl) (by rfl) (by rfl) (by kernel_rfl) rfl ?i0 ?step ?fin
      case i0 =>
        exact ⟨fun _ => rfl,(fun h => by simp at h),(fun h => by simp at h)⟩
      case step =>
        intro j0 hj0 f t W hfi hwt hcl hk2 hI
        have h65 : f 6 = true → f 5 = true:=hcl 6 5 (by kernel_rfl)
        have ha:=hcl 5 0 (by kernel_rfl)
        have hb':=hcl 5 4 (by kernel_rfl)
        clear hcl
        have hnot : j0 = 0 ∨ j0 = 4 → f 5 = false:=fun h => Bool.eq_false_iff.2 (fun q => by
          have q1:=ha q
          have q2:=hb' q
          rcases h with rfl | rfl <;> simp_all)
        obtain rfl | rfl | rfl | rfl | rfl | rfl | rfl : j0 = 0 ∨ j0 = 1 ∨ j0 = 2 ∨ j0 = 3 ∨ j0 = 4 ∨ j0 = 5 ∨ j0 = 6:=by omega
        · -- operation 0
          try (have hW:=hI.1 (hnot (by decide)); subst hW)
          replace hI:=Lib.hid hI
          replace hk2:=Lib.hid hk2
          clear hwt
          refine wpOp_step rfl (fun K hK => ?_)
          go_simp
          exact hK _ _ ⟨_,by simp [updT],hk2.out.at_ rfl,hI.out.same _ _ (by decide) (by decide)⟩
        · -- operation 1
          try (have hW:=hI.1 (hnot (by decide)); subst hW)
          replace hI:=Lib.hid hI
          replace hk2:=Lib.hid hk2
          clear hwt
          refine wpOp_step rfl (fun K hK => ?_)
          go_simp
          exact hK _ _ ⟨_,by simp [updT],hk2.out.at_ rfl,hI.out.same _ _ (by decide) (by decide)⟩
        · -- operation 2
          try (have hW:=hI.1 (hnot (by decide)); subst hW)
          replace hI:=Lib.hid hI
          replace hk2:=Lib.hid hk2
          clear hwt
          refine wpOp_step rfl (fun K hK => ?_)
          go_simp
          exact hK _ _ ⟨_,by simp [updT],hk2.out.at_ rfl,hI.out.same _ _ (by decide) (by decide)⟩
        · -- operation 3
          have e1 : t 1 = Value.slice (some ⟨b,off,none⟩) l.length cap:=hk2 1 _ (hwt 1 (by kernel_rfl)) rfl
          have e2 : t 2 = Value.int IntKind.i64 (i : Int):=hk2 2 _ (hwt 2 (by kernel_rfl)) rfl
          try (have hW:=hI.1 (hnot (by decide)); subst hW)
          replace hI:=Lib.hid hI
          replace hk2:=Lib.hid hk2
          clear hwt
          refine wpOp_step rfl (fun K hK => ?_)
          go_simp
          exact hK _ _ ⟨_,by simp [updT,e1,e2],hk2.out.at_ rfl,hI.out.same _ _ (by decide) (by decide)⟩
        · -- operation 4
          have e3 : t 3 = .pointer (some ⟨b,off + i * 4,none⟩):=hk2 3 _ (hwt 3 (by kernel_rfl)) rfl
          try (have hW:=hI.1 (hnot (by decide)); subst hW)
          replace hI:=Lib.hid hI
          replace hk2:=Lib.hid hk2
          clear hwt
          refine wpOp_step rfl (fun K hK => ?_)
          go_simp
          exact hK _ _ ⟨_,by simp [updT,e3],hk2.out.at_ rfl,hI.out.same _ _ (by decide) (by decide)⟩
        · -- operation 5
          have e0 : t 0 = .agg #[.slice aL s.L.length cL,.slice aP pa.length cP]:=hk2 0 _ (hwt 0 (by kernel_rfl)) rfl
          have e4 : t 4 = .agg #[.int .i64 tk.kind,.string tk.name,.slice av tk.attrs.length cv,.string tk.text]:=hk2 4 _ (hwt 4 (by kernel_rfl)) rfl
          have h6 : f 6 = false:=Bool.eq_false_iff.2 (fun h => by rw [h65 h] at hfi; cases hfi)
          have hW:=hI.1 hfi
          subst hW
          replace hk2:=Lib.hid hk2
          replace hI:=Lib.hid hI
          clear hwt
          refine wpOp_step rfl (fun K hK => ?_)
          go_simp
          refine hPut.out.mono ?_
          rintro e w5 ⟨v5,p5,rfl,hr5,hp5,hb5⟩
          have hz5 : wr.heap.size ≤ w5.heap.size:=hb5.size
          have hb5' : Below wr.heap.size wr w5:=(Below.refl wr.heap.size wr).drew.trans hb5
          have hm5 : ∀ b,(Sx S wo wr b ∨ (wr.drew.heap.size ≤ b ∧ b < w5.heap.size)) → Sx S wo w5 b:=fun b hb' => by
            rcases hb' with (h | h) | h
            · exact Or.inl h
            · exact Or.inr ⟨h.1,by omega⟩
            · exact Or.inr ⟨Nat.lt_of_lt_of_le hgl h.1,h.2⟩
          exact hK _ _ ⟨.agg #[v5,p5],by simp [updT,e0,e4],hk2.out.free rfl,⟨(fun h => by rw [updF_self] at h; cases h),fun _ _ => ⟨v5,p5,_,_,updT_same _ _ _,⟨hr5.mono hm5,Row.mono hp5 hm5,bt hb hb5'⟩,bx.out.below hb5' hgl⟩,(fun h => by rw [updF_ne _ (by decide),h6] at h; cases h)⟩⟩
        · -- operation 6
          have h5:=hwt 5 (by kernel_rfl)
          obtain ⟨vL,vP,z0,z1,e5,hV,bW⟩:=hI.2.1 h5 hfi
          have hst:=Lib.hid (hV.store bW hS)
          obtain ⟨a8,c8,rfl⟩:=hV.1.slice
          obtain ⟨a9,c9,rfl⟩:=Row.slice hV.2.1
          have y0:=bW.cell (i:=0) rfl
          have y1:=bW.cell (i:=1) rfl
          have f0:=bW.free 0
          have f1:=bW.free 1
          clear bW hV
          replace hk2:=Lib.hid hk2
          replace hI:=Lib.hid hI
          clear hwt
          refine wpOp_step rfl (fun K hK => ?_)
          go_simp
          exact hK _ _ ⟨undef,by simp [updT,e5,],hk2.out.free rfl,⟨(fun h => by rw [updF_ne _ (by decide),h5] at h; cases h),(fun _ h => by rw [updF_self] at h; cases h),fun _ => hst.out⟩⟩
      case fin =>
        intro f t W hall hk2 hI
        have hTB : Hid (TrB S wo W (M7.run (l.take (i + 1)))):=by
          show TrB _ _ _ _
          rw [htk.out]; exact hI.2.2 (hall 6 (by omega))
        clear hk2 hall hI hPut bx
        go_wp2_with fail
        go_roundw
        case rel => exact ⟨i + 1,by omega,by go_num,hTB⟩
        case measure => exact meas_nat hlt
    · obtain rfl : i = l.length:=by omega
      rw [List.take_length] at hrL
      have hres : Hid (RepN (fun b => S b ∨ (wo.heap.size ≤ b ∧ b < wr.heap.size)) wr (.slice aL (M7.run l).L.length cL) (M7.tree l)):=by
        show RepN _ _ _ _
        exact RepN.mono (S:=Sx S wo wr) hrL (fun b hb' => by
          rcases hb' with h | h
          · exact Or.inl h
          · exact Or.inr ⟨by omega,h.2⟩)
      clear hTB hrL hrP bx
      go_wp2_with fail
      go_ret
      exact ⟨_,rfl,hres.out,hb⟩
end Go.Proofs.YteefodibpjgicaaGreat

namespace Go.Proofs.YteefodibpjgicaaGreat
open Go.RowKit
theorem wr_meas4 {n k : Nat} (h : k < n) : n - (intOf (.int .i64 ((k : Int) + 1))).toNat < n - (intOf (.int .i64 (k : Int))).toNat:=by
  simp [intOf]; omega
def TxtPost (out : List UInt8) (w : World) (e : Ending) (w' : World) : Prop:=e = .returned (.string ⟨out.toArray⟩) ∧ Below w.heap.size w w'
set_option maxHeartbeats 4000000 in
set_option maxRecDepth 100000 in
theorem ref04Open (S : Nat → Prop) (x : Nd) (va vk : Value) (w : World) (hS : ∀ b,S b → b < w.heap.size) (hx : RepV S w x va vk) (hf : Fit1 x) :
    Calls Tryz.prog 63 #[x.val va vk] w (TxtPost (M4.openB x) w):=by
  obtain ⟨a1,e1,rfl⟩:=hx.at_.slice
  obtain ⟨a2,e2,rfl⟩:=hx.kids.slice
  obtain ⟨_,hlc,hcm⟩:=hx.at_.len
  have b0 : Below w.heap.size w (w.alloc (.cells (x.cells (.slice a1 x.attrs.length e1) (.slice a2 x.kids.length e2)).toArray 41)):=(Below.refl _ w).alloc (Nat.le_refl _) _
  have hz0 : (w.alloc (.cells (x.cells (.slice a1 x.attrs.length e1) (.slice a2 x.kids.length e2)).toArray 41)).heap.size = w.heap.size + 1:=by simp
  have hbx:=Box.new w 41 (x.cells (.slice a1 x.attrs.length e1) (.slice a2 x.kids.length e2))
  by_cases k1 : x.kind = 1
  · have e0 : M4.openB x = M4.headB x.name x.attrs:=by unfold M4.openB; rw [if_pos k1]
    rw [e0]
    clear e0
    have k1b : (x.kind != 1) = false:=by simpa using k1
    replace k1:=Lib.hid k1
    have hat:=Lib.hid (fun (W : World) (hW : Below w.heap.size w W) => hx.at_.keep (w':=W) (fun b h => hW.block b (hS b h)))
    have hfa:=Lib.hid hf.2.2.1
    have hln:=hf.1
    have hlw:=hf.2.2.2
    have hal:=M4.attsB_len x.attrs hf.2.2.1
    clear hx hf
    cases x with | mk k n ats t ks =>
    simp only [Nd.kind,Nd.name,Nd.text,Nd.attrs,Nd.kids,Nd.val] at *
    replace hz0:=Lib.hid hz0
    go_enter Tryz.func63,Tryz.ntmps63
    go_wp2_with fail
    go_loopw [3,4] (fun u3 u4 wr => ∃ (i : Nat) (o : ByteArray),i ≤ ats.length ∧ u4 = .int .i64 (i : Int) ∧ u3 = .string o ∧ o.data.toList = 60 :: n.data.toList ++ M4.attsB (ats.take i) ∧ Below (w.heap.size + 1) (w.alloc (.cells #[.int .i64 k,.string n,.slice a1 ats.length e1,.string t,.slice a2 ks.length e2] 41)) wr) (fun _ u4 _ => ats.length - (intOf u4).toNat)
    case atStart => exact ⟨0,_,by omega,rfl,rfl,by rw [List.take_zero]; simp [M4.attsB],Below.refl _ _⟩
    case round =>
      obtain ⟨i,o,hi,rfl,rfl,ho,hb⟩:=hrel
      have hbx1:=hbx.below hb (by omega)
      have d2:=hbx1.cell (i:=2) rfl
      have hbw : Below w.heap.size w wr:=b0.trans (hb.mono (by omega))
      have hpre:=M4.attsB_prefix ats i
      have hos : o.size = 1 + n.size + (M4.attsB (ats.take i)).length:=by
        show o.data.toList.length = _
        rw [ho]; simp; show n.size + _ + 1 = _; omega
      by_cases hlt : i < ats.length
      · obtain ⟨b,off,rfl,hSb,q0,q1⟩:=(hat.out wr hbw).atA i hlt
        have hbl:=hS b hSb
        obtain ⟨hfn,hfv⟩:=hfa.out _ (List.getElem_mem hlt)
        have htk:=M4.attsB_take ats i hlt
        have hEs:=Lib.hid (fun W => ref02Escape ats[i].value true W (by omega))
        have hel:=M2.escape_len true ats[i].value.data.toList
        have hel2 : ats[i].value.data.toList.length = ats[i].value.size:=rfl
        have fin : Hid ((o ++ ⟨#[32]⟩ ++ ats[i].name ++ ⟨#[61,34]⟩ ++ ⟨(M2.escape true ats[i].value.data.toList).toArray⟩ ++ ⟨#[34]⟩ : ByteArray).data.toList = 60 :: n.data.toList ++ M4.attsB (ats.take (i + 1))):=by
          show _ = _
          rw [htk,M4.attB]
          simp [ho]
        generalize hA2 : M4.attsB (ats.take (i + 1)) = A2 at *
        replace hA2:=Lib.hid hA2
        generalize ats[i].name = nm at *
        generalize ats[i].value = vl at *
        replace ho:=Lib.hid ho
        replace htk:=Lib.hid htk
        have hes : (⟨(M2.escape true vl.data.toList).toArray⟩ : ByteArray).size ≤ 1610612736:=by show (M2.escape true vl.data.toList).length ≤ _; omega
        generalize (⟨(M2.escape true vl.data.toList).toArray⟩ : ByteArray) = ev at *
        clear hel hel2
        have hI0 : (i : Int) < (ats.length : Int):=by omega
        have hI1 : (0 : Int) ≤ (i : Int):=by omega
        go_wp2_with fail
        go_quiet ((go_at_call 61; exact Calls.quiet_of_same (hEs.out _)))
        go_wp2_with fail
        go_roundw
        case rel => exact ⟨i + 1,_,by omega,by go_num,rfl,by rw [hA2.out]; exact fin.out,below_drewN hb _⟩
        case measure => exact wr_meas4 hlt
      · obtain rfl : i = ats.length:=by omega
        rw [List.take_length] at ho hos
        have fin : Hid ((o ++ ⟨#[62]⟩ : ByteArray) = ⟨(M4.headB n ats).toArray⟩):=by
          show _ = _
          apply ByteArray.ext
          apply Array.ext'
          simp [ho,M4.headB]
        replace ho:=Lib.hid ho
        go_wp2_with fail
        go_ret
        exact ⟨by rw [fin.out]; rfl,hbw⟩
  · have e0 : M4.openB x = []:=by unfold M4.openB; rw [if_neg k1]
    rw [e0]
    have k1b : (x.kind != 1) = true:=by simpa using k1
    replace k1:=Lib.hid k1
    clear e0
    replace b0:=Lib.hid b0
    go_enter Tryz.func63,Tryz.ntmps63
    go_wp2_with fail
    go_ret
    exact ⟨rfl,b0.out⟩
theorem weight_mem' {x : Nd} {l : List Nd} (h : x ∈ l) : 1 + M3.weight x.kids ≤ M3.weight l:=by
  have:=weight_mem h
  omega
theorem str_two (a : List UInt8) (o : ByteArray) (h : o.data.toList = a) : o = ⟨a.toArray⟩:=by
  subst h
  cases o
  simp
set_option maxHeartbeats 8000000 in
set_option maxRecDepth 100000 in
theorem ref04one (wt : Nat) : ∀ (S : Nat → Prop) (x : Nd) (va vk : Value) (raw : Bool) (w : World),1 + M3.weight x.kids < wt → (∀ b,S b → b < w.heap.size) → RepV S w x va vk → Fit1 x → FitN x.kids → (M4.oneB raw x).length ≤ 70368744177664 →
    Calls Tryz.prog 41 #[x.val va vk,.bool raw] w (TxtPost (M4.oneB raw x) w):=by
  induction wt with
  | zero => intro S x va vk raw w h; omega
  | succ wt ih =>
  intro S x va vk raw w hwt hS hx hf hfk hl
  have hOp:=Lib.hid (fun W (hW : Below w.heap.size w W) => ref04Open S x va vk W (fun b h => Nat.lt_of_lt_of_le (hS b h) hW.size) (hx.keep (fun b h => hW.block b (hS b h))) hf)
  obtain ⟨a1,e1,rfl⟩:=hx.at_.slice
  obtain ⟨a2,e2,rfl⟩:=hx.kids.slice
  have b0 : Below w.heap.size w (w.alloc (.cells (x.cells (.slice a1 x.attrs.length e1) (.slice a2 x.kids.length e2)).toArray 41)):=(Below.refl _ w).alloc (Nat.le_refl _) _
  have hz0 : (w.alloc (.cells (x.cells (.slice a1 x.attrs.length e1) (.slice a2 x.kids.length e2)).toArray 41)).heap.size = w.heap.size + 1:=by simp
  have hbx:=Box.new w 41 (x.cells (.slice a1 x.attrs.length e1) (.slice a2 x.kids.length e2))
  have hts:=hf.2.1
  have hns:=hf.1
  have hlw:=hf.2.2.2
  replace ih:=Lib.hid ih
  by_cases k3 : x.kind = 3
  · have e0:=M4.oneB_3 (raw:=raw) k3
    have fin : Hid ((⟨#[60,33,45,45]⟩ ++ x.text ++ ⟨#[45,45,62]⟩ : ByteArray) = ⟨(M4.oneB raw x).toArray⟩):=by
      refine str_two _ _ ?_
      rw [e0,M4.commB]; simp
    have k3b : (x.kind == 3) = true:=by simpa using k3
    replace k3:=Lib.hid k3
    replace b0:=Lib.hid b0
    clear hOp e0 hbx hx hf
    go_enter Tryz.func41,Tryz.ntmps41
    go_wp2_with fail
    go_ret
    exact ⟨by rw [fin.out]; rfl,b0.out⟩
  have k3b : (x.kind == 3) = false:=by simpa using k3
  by_cases k2 : x.kind = 2
  · have e0:=M4.oneB_2 (raw:=raw) k2
    have k2b : (x.kind == 2) = true:=by simpa using k2
    have hEs:=Lib.hid (fun W => ref02Escape x.text false W (by omega))
    replace k2:=Lib.hid k2
    replace b0:=Lib.hid b0
    replace e0:=Lib.hid e0
    clear hOp hbx hx hf k3
    cases raw
    · go_enter Tryz.func41,Tryz.ntmps41
      go_wp2_with fail
      refine (hEs.out _).mono ?_
      rintro e w1 ⟨rfl,rfl⟩
      go_wp2_with fail
      go_ret
      exact ⟨by rw [e0.out]; rfl,b0.out⟩
    · go_enter Tryz.func41,Tryz.ntmps41
      go_wp2_with fail
      go_ret
      exact ⟨by rw [e0.out,show M4.charsB true x.text = x.text.data.toList from rfl,← str_two _ x.text rfl]; rfl,b0.out⟩
  have k2b : (x.kind == 2) = false:=by simpa using k2
  by_cases k1 : x.kind = 1
  · have e0:=M4.oneB_1 (raw:=raw) k1
    have k1b : (x.kind != 1) = false:=by simpa using k1
    have eop : M4.openB x = M4.headB x.name x.attrs:=by unfold M4.openB; rw [if_pos k1]
    rw [eop] at hOp
    rw [e0] at hl ⊢
    have hkd:=hx.kids
    clear e0 eop hf hx k2 k3
    replace k1:=Lib.hid k1
    cases x with | mk k n ats t ks =>
    simp only [Nd.kind,Nd.name,Nd.text,Nd.attrs,Nd.kids,Nd.val] at hwt hkd hfk hl hOp b0 hbx hz0 hlw hns hts k1b k2b k3b ⊢
    go_enter Tryz.func41,Tryz.ntmps41
    go_wp2_with fail
    refine (ref03Void _ _).mono ?_
    rintro e w1 ⟨rfl,rfl⟩
    cases hvd : M3.voidB n.data.toList
    · rw [hvd,M4.innerB_no] at hl
      go_wp2_with fail
      refine (ref03Raw _ _).mono ?_
      rintro e w1 ⟨rfl,rfl⟩
      have hOp2:=Lib.hid (hOp.out _ b0)
      generalize hrw : M3.rawB n.data.toList = rw_ at *
      replace hrw:=Lib.hid hrw
      clear hOp
      go_wp2_with fail
      refine hOp2.out.mono ?_
      rintro e w1 ⟨rfl,hb1⟩
      have hbx1:=hbx.below hb1 (by omega)
      clear hOp2
      have hz1:=hb1.size
      have hbw1:=bt b0 hb1
      have h0 : Hid ((⟨(M4.headB n ats).toArray⟩ : ByteArray).data.toList = M4.headB n ats ++ M4.textB rw_ (ks.take 0)):=by show _ = _; rw [List.take_zero,M4.textB_nil]; simp
      go_wp2_with fail
      go_loopw [7,8] (fun u7 u8 wr => ∃ (i : Nat) (o : ByteArray),i ≤ ks.length ∧ u8 = .int .i64 (i : Int) ∧ u7 = .string o ∧ Hid (o.data.toList = M4.headB n ats ++ M4.textB rw_ (ks.take i)) ∧ Below w1.heap.size w1 wr) (fun _ u8 _ => ks.length - (intOf u8).toNat)
      case atStart => exact ⟨0,_,by omega,rfl,rfl,h0,Below.refl _ _⟩
      case round =>
        obtain ⟨i,o,hi,rfl,rfl,ho,hb⟩:=hrel
        have hbx2:=hbx1.below hb hbx1.lt
        have d4:=hbx2.cell (i:=4) rfl
        have hbw : Below w.heap.size w wr:=bt hbw1 hb
        obtain ⟨_,hlc,hcm⟩:=hkd.len
        have hos : o.size = (M4.headB n ats).length + (M4.textB rw_ (ks.take i)).length:=by
          show o.data.toList.length = _
          rw [ho.out,List.length_append]
        by_cases hlt : i < ks.length
        · obtain ⟨b,off,va,vk,rfl,hSb,c0,c1,c2,c3,c4,hrv⟩:=hkd.look hS hbw i hlt
          have hbl:=hS b hSb
          have hfx:=fitN_mem hfk (List.getElem_mem hlt)
          have hwk:=weight_mem' (List.getElem_mem hlt)
          have hpre:=M4.textB_prefix rw_ ks (i + 1)
          have htk:=M4.textB_take rw_ ks i hlt
          have hpre2 : (M4.textB rw_ (ks.take i)).length + (M4.oneB rw_ ks[i]).length ≤ (M4.textB rw_ ks).length:=by rw [htk,List.length_append] at hpre; exact hpre
          rw [List.length_append,List.length_append] at hl
          have hih:=Lib.hid (ih.out S ks[i] va vk rw_ wr (by omega) (fun b h => Nat.lt_of_lt_of_le (hS b h) hbw.size) (hrv.keep (fun b h => hbw.block b (hS b h))) hfx.1 hfx.2 (by omega))
          have fin : Hid ((o ++ ⟨(M4.oneB rw_ ks[i]).toArray⟩ : ByteArray).data.toList = M4.headB n ats ++ M4.textB rw_ (ks.take (i + 1))):=by
            show _ = _
            rw [htk]; simp [ho.out]
          have hsz2 : (⟨(M4.oneB rw_ ks[i]).toArray⟩ : ByteArray).size = (M4.oneB rw_ ks[i]).length:=rfl
          have hsm : o.size + (⟨(M4.oneB rw_ ks[i]).toArray⟩ : ByteArray).size ≤ 70368744177664:=by rw [hsz2]; omega
          clear hpre htk hpre2 hsz2
          generalize hA2 : M4.textB rw_ (ks.take (i + 1)) = A2 at *
          replace hA2:=Lib.hid hA2
          replace hos:=Lib.hid hos
          generalize ks[i] = y at *
          obtain ⟨a3,e3,rfl⟩:=hrv.at_.slice
          obtain ⟨a4,e4,rfl⟩:=hrv.kids.slice
          generalize M4.oneB rw_ y = ev at *
          clear hrv
          have hI0 : (i : Int) < (ks.length : Int):=by omega
          go_wp2_with fail
          refine hih.out.mono ?_
          rintro e w2 ⟨rfl,hb2⟩
          have hb3:=bt hb (hb2.mono (Nat.le_refl _))
          clear hih
          generalize (⟨ev.toArray⟩ : ByteArray) = eb at *
          go_wp2_with fail
          go_roundw
          case rel => exact ⟨i + 1,_,by omega,by go_num,rfl,by rw [hA2.out]; exact fin,hb3⟩
          case measure => exact wr_meas4 hlt
        · obtain rfl : i = ks.length:=by omega
          rw [List.take_length] at ho hos
          have hel : M4.endB n = [60,47] ++ (n.data.toList ++ [62]):=by unfold M4.endB; rw [hvd]; rfl
          have fin : Hid ((o ++ ⟨#[60,47]⟩ ++ n ++ ⟨#[62]⟩ : ByteArray) = ⟨(M4.headB n ats ++ (M4.textB rw_ ks ++ M4.endB n)).toArray⟩):=by
            refine str_two _ _ ?_
            rw [hel]; simp [ho.out]
          have d1 : wr.cell? ⟨w.heap.size,1,none⟩ = some (.string n):=hbx2.cell (i:=1) rfl
          rw [List.length_append,List.length_append] at hl
          have hos2 : o.size ≤ 70368744177664:=by omega
          replace hel:=Lib.hid hel
          replace hos:=Lib.hid hos
          go_wp2_with fail
          go_ret
          exact ⟨by rw [M4.innerB_no,← fin.out]; rfl,hbw⟩
    · rw [hvd,M4.innerB_yes] at hl
      have hOp2:=Lib.hid (hOp.out _ b0)
      have e3 : M4.endB n = []:=by unfold M4.endB; rw [hvd]; rfl
      go_wp2_with fail
      refine hOp2.out.mono ?_
      rintro e w1 ⟨rfl,hb1⟩
      have hbb:=Lib.hid (bt b0 hb1)
      go_wp2_with fail
      go_ret
      exact ⟨by rw [hvd,M4.innerB_yes,e3]; simp,hbb.out⟩
  · have e0:=M4.oneB_4 (raw:=raw) k1 k2 k3
    rw [e0]
    have k1b : (x.kind != 1) = true:=by simpa using k1
    replace k1:=Lib.hid k1
    replace b0:=Lib.hid b0
    clear e0 hOp hbx hx hf k2 k3
    go_enter Tryz.func41,Tryz.ntmps41
    go_wp2_with fail
    go_ret
    exact ⟨rfl,b0.out⟩
set_option maxHeartbeats 4000000 in
set_option maxRecDepth 100000 in
theorem ref04Text (S : Nat → Prop) (v : Value) (l : List Nd) (w : World) (hS : ∀ b,S b → b < w.heap.size) (hr : RepN S w v l) (hfit : FitN l) (hl : (M4.textB false l).length ≤ 70368744177664) :
    Calls Tryz.prog 26 #[v] w (TxtPost (M4.textB false l) w):=by
  obtain ⟨a,cap,rfl⟩:=hr.slice
  obtain ⟨_,hlc,hcm⟩:=hr.len
  replace hfit:=Lib.hid hfit
  have h0 : Hid ((⟨#[]⟩ : ByteArray).data.toList = M4.textB false (l.take 0)):=by show _ = _; rw [List.take_zero,M4.textB_nil]
  go_enter Tryz.func26,Tryz.ntmps26
  go_wp2_with fail
  go_loopw [3,4] (fun u3 u4 wr => ∃ (i : Nat) (o : ByteArray),i ≤ l.length ∧ u4 = .int .i64 (i : Int) ∧ u3 = .string o ∧ Hid (o.data.toList = M4.textB false (l.take i)) ∧ Below w.heap.size w wr) (fun _ u4 _ => l.length - (intOf u4).toNat)
  case atStart => exact ⟨0,_,by omega,rfl,rfl,h0,Below.refl _ _⟩
  case round =>
    obtain ⟨i,o,hi,rfl,rfl,ho,hb⟩:=hrel
    have hos : o.size = (M4.textB false (l.take i)).length:=by
      show o.data.toList.length = _
      rw [ho.out]
    by_cases hlt : i < l.length
    · obtain ⟨b,off,va,vk,rfl,hSb,c0,c1,c2,c3,c4,hrv⟩:=hr.look hS hb i hlt
      have hbl:=hS b hSb
      have hfx:=fitN_mem hfit.out (List.getElem_mem hlt)
      have hpre:=M4.textB_prefix false l (i + 1)
      have htk:=M4.textB_take false l i hlt
      have hpre2 : (M4.textB false (l.take i)).length + (M4.oneB false l[i]).length ≤ (M4.textB false l).length:=by rw [htk,List.length_append] at hpre; exact hpre
      have hih:=Lib.hid (ref04one (1 + M3.weight l[i].kids + 1) S l[i] va vk false wr (by omega) (fun b h => Nat.lt_of_lt_of_le (hS b h) hb.size) (hrv.keep (fun b h => hb.block b (hS b h))) hfx.1 hfx.2 (by omega))
      have fin : Hid ((o ++ ⟨(M4.oneB false l[i]).toArray⟩ : ByteArray).data.toList = M4.textB false (l.take (i + 1))):=by
        show _ = _
        rw [htk]; simp [ho.out]
      have hsz2 : (⟨(M4.oneB false l[i]).toArray⟩ : ByteArray).size = (M4.oneB false l[i]).length:=rfl
      have hsm : o.size + (⟨(M4.oneB false l[i]).toArray⟩ : ByteArray).size ≤ 70368744177664:=by rw [hsz2]; omega
      clear hpre htk hpre2 hsz2
      generalize hA2 : M4.textB false (l.take (i + 1)) = A2 at *
      replace hA2:=Lib.hid hA2
      replace hos:=Lib.hid hos
      generalize l[i] = y at *
      obtain ⟨a3,e3,rfl⟩:=hrv.at_.slice
      obtain ⟨a4,e4,rfl⟩:=hrv.kids.slice
      generalize M4.oneB false y = ev at *
      clear hrv
      have hI0 : (i : Int) < (l.length : Int):=by omega
      go_wp2_with fail
      refine hih.out.mono ?_
      rintro e w2 ⟨rfl,hb2⟩
      have hb3:=bt hb hb2
      clear hih
      generalize (⟨ev.toArray⟩ : ByteArray) = eb at *
      go_wp2_with fail
      go_roundw
      case rel => exact ⟨i + 1,_,by omega,by go_num,rfl,by rw [hA2.out]; exact fin,hb3⟩
      case measure => exact wr_meas4 hlt
    · obtain rfl : i = l.length:=by omega
      rw [List.take_length] at ho
      have fin : Hid (o = ⟨(M4.textB false l).toArray⟩):=str_two _ _ ho.out
      go_wp2_with fail
      go_ret
      exact ⟨by rw [← fin.out]; rfl,hb⟩
end Go.Proofs.YteefodibpjgicaaGreat
