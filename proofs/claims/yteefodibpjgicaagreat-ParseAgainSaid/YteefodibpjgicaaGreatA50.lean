/- Texts joined: Wr2, Wr3, Par1. -/
import Derived.StillTailTactics
import Derived.Shelf.Abstract
import Derived.Test.YteefodibpjgicaaGreatA12
import Derived.Test.YteefodibpjgicaaGreatA32
import Derived.Test.YteefodibpjgicaaGreatA39
import Derived.Test.YteefodibpjgicaaGreatA40
import Derived.Test.YteefodibpjgicaaGreatA49
namespace Go.Proofs.YteefodibpjgicaaGreat
open Go.RowKit
set_option maxHeartbeats 4000000 in
set_option maxRecDepth 100000 in
theorem writeElement {B F g : Nat} {P : List UInt8 → World → Prop} (hp : Puts B F g P) (S : Nat → Prop) (x : Nd) (va vk : Value) (acc : List UInt8) (w w0 : World) (hS : ∀ b,S b → b < B) (hx : RepV S w0 x va vk) (hw : Below B w0 w) (hf : Fit1 x) (hP : P acc w) (hk1 : x.kind = 1)
    (hN : ∀ (acc : List UInt8) (raw : Bool) (W : World),Below B w0 W → P acc W → acc.length + (M4.textB raw x.kids).length ≤ 70368744177664 → Calls Tryz.prog 98 #[vk,.bool raw,.func (.func F) #[] #[.pointer (some ⟨g,0,none⟩)]] W (PutPost B P (acc ++ M4.textB raw x.kids) W))
    (hl : acc.length + (M4.oneB false x).length ≤ 70368744177664) :
    Calls Tryz.prog 108 #[x.val va vk,.func (.func F) #[] #[.pointer (some ⟨g,0,none⟩)]] w (PutPost B P (acc ++ M4.oneB false x) w):=by
  obtain ⟨a1,e1,hva⟩:=hx.at_.slice
  obtain ⟨a2,e2,hvk⟩:=hx.kids.slice
  subst hva hvk
  rw [M4.oneB_1 hk1] at hl ⊢
  cases x with | mk k n ats t ks =>
  have hB:=hp.base _ _ hP
  have hb0 : Below w.heap.size w (w.alloc (.cells #[.int .i64 k,.string n,.slice a1 ats.length e1,.string t,.slice a2 ks.length e2] 41)):=(Below.refl _ _).alloc (Nat.le_refl _) _
  have hbx:=Box.new w 41 [.int .i64 k,.string n,.slice a1 ats.length e1,.string t,.slice a2 ks.length e2]
  have hP0:=hp.stab _ _ _ hP hb0
  have hk0:=Lib.hid (Kw.of_below hb0 hB)
  rw [List.length_append,List.length_append] at hl
  have hBeg:=Lib.hid (fun (W : World) (hW : Below B w W) (hP : P acc W) => writeBegin hp S (.mk k n ats t ks) (.slice a1 ats.length e1) (.slice a2 ks.length e2) acc W w0 hS hx (hw.trans hW) hf hP (by omega))
  have hEnd:=Lib.hid (fun (acc : List UInt8) (W : World) (hP : P acc W) (hl : acc.length + (M4.endB n).length ≤ 70368744177664) => writeEnd hp (.mk k n ats t ks) (.slice a1 ats.length e1) (.slice a2 ks.length e2) acc W ⟨_,_,_,rfl⟩ ⟨_,_,_,rfl⟩ hP hl)
  replace hN:=Lib.hid hN
  replace hw:=Lib.hid hw
  clear hx hf hk1
  simp only [Nd.kind,Nd.name,Nd.text,Nd.attrs,Nd.kids,Nd.val] at *
  go_enter Tryz.func108,Tryz.ntmps108
  go_wp2_with (fail)
  refine (hBeg.out _ (hb0.mono hB) hP0).mono ?_
  rintro e w1 ⟨rfl,hP1,hk1⟩
  have hb1:=hk1.box hbx (.inl rfl)
  have d1:=hb1.cell (i:=1) rfl
  have hka:=Lib.hid (hk0.out.trans hk1)
  clear hbx hP0 hb0 hBeg hk1
  go_wp2_with (fail)
  refine (domVoid _ _).mono ?_
  rintro e w1 ⟨rfl,rfl⟩
  cases hvd : M3.voidB n.data.toList
  · rw [hvd] at hl
    rw [M4.innerB_no] at hl
    have d4:=hb1.cell (i:=4) rfl
    have hkd : Below w1.heap.size w1 w1.drew:=(Below.refl _ w1).drew
    have hPd:=hp.stab _ _ _ hP1 hkd
    have hkd2:=Lib.hid (hka.out.trans (Kw.of_below hkd (hp.base _ _ hP1)))
    have hNN:=Lib.hid (hN.out (acc ++ M4.headB n ats) (M3.rawB n.data.toList) w1.drew (hw.out.trans hkd2.out.low) hPd (by rw [List.length_append]; omega))
    have hbd:=hb1.below hkd hb1.lt
    replace hbd:=Lib.hid hbd
    replace hPd:=Lib.hid hPd
    clear hkd
    go_wp2_with (fail)
    refine wp_region_still_tail 6 (by kernel_rfl) (by kernel_rfl) ?_
    simp only [List.take_succ_cons,List.take_zero,List.drop_succ_cons,List.drop_zero]
    repeat still_step
    still_call (domRaw _ _)
    repeat still_step
    refine wpStill_nil ?_
    change wpList _ _ _ _ _ w1.drew
    go_wp2_with (fail)
    refine hNN.out.mono ?_
    rintro e w2 ⟨rfl,hP2,hk2⟩
    have hb2:=hk2.box hbd.out (.inl rfl)
    have f0:=hb2.cell (i:=0) rfl
    have f1:=hb2.cell (i:=1) rfl
    have f2:=hb2.cell (i:=2) rfl
    have f3:=hb2.cell (i:=3) rfl
    have f4:=hb2.cell (i:=4) rfl
    clear hNN d1 d4 hb1
    go_wp2_with (fail)
    refine (hEnd.out _ _ hP2 (by simp only [List.length_append]; omega)).mono ?_
    rintro e w3 ⟨rfl,hP3,hk3⟩
    have hab : Hid (acc ++ M4.headB n ats ++ M4.textB (M3.rawB n.data.toList) ks ++ M4.endB n = acc ++ (M4.headB n ats ++ (M4.innerB false (M3.rawB n.data.toList) ks ++ M4.endB n))):=by show _ = _; rw [M4.innerB_no]; simp
    have hP4:=Lib.hid (hab.out ▸ hP3 : P (acc ++ (M4.headB n ats ++ (M4.innerB false (M3.rawB n.data.toList) ks ++ M4.endB n))) w3)
    clear hP3 hab
    go_wp2_with (fail)
    go_end0
    exact ⟨rfl,by rw [hvd]; exact hP4.out,(hkd2.out.trans hk2).trans hk3⟩
  · rw [hvd] at hl
    have f0:=hb1.cell (i:=0) rfl
    have f2:=hb1.cell (i:=2) rfl
    have f3:=hb1.cell (i:=3) rfl
    have f4:=hb1.cell (i:=4) rfl
    rw [M4.innerB_yes] at hl ⊢
    go_wp2_with (fail)
    refine (hEnd.out _ _ hP1 (by simp only [List.length_append,List.length_nil] at *; omega)).mono ?_
    rintro e w3 ⟨rfl,hP3,hk3⟩
    have hab : Hid (acc ++ M4.headB n ats ++ M4.endB n = acc ++ (M4.headB n ats ++ ([] ++ M4.endB n))):=by show _ = _; simp
    have hP4:=Lib.hid (hab.out ▸ hP3 : P (acc ++ (M4.headB n ats ++ ([] ++ M4.endB n))) w3)
    clear hP3 hab
    go_wp2_with (fail)
    go_end0
    exact ⟨rfl,by rw [hvd,M4.innerB_yes]; exact hP4.out,hka.out.trans hk3⟩
theorem fitN_mem {x : Nd} {l : List Nd} (h : FitN l) (hx : x ∈ l) : Fit1 x ∧ FitN x.kids:=by
  induction l with
  | nil => cases hx
  | cons y r ih =>
    obtain ⟨h1,h2,h3⟩:=fitN_cons.1 h
    rcases List.mem_cons.1 hx with rfl | hx
    · exact ⟨h1,h2⟩
    · exact ih h3 hx
theorem RepN.look {S : Nat → Prop} {w w' : World} {a : Option Addr} {n cap : Nat} {l : List Nd} {B : Nat} (h : RepN S w (.slice a n cap) l) (hS : ∀ b,S b → b < B) (hw : Below B w w') (i : Nat) (hi : i < l.length) :
    ∃ b off va vk,a = some ⟨b,off,none⟩ ∧ S b ∧ w'.cell? ⟨b,off + i * 5,none⟩ = some (.int .i64 l[i].kind) ∧ w'.cell? ⟨b,off + i * 5 + 1,none⟩ = some (.string l[i].name) ∧ w'.cell? ⟨b,off + i * 5 + 2,none⟩ = some va ∧
      w'.cell? ⟨b,off + i * 5 + 3,none⟩ = some (.string l[i].text) ∧ w'.cell? ⟨b,off + i * 5 + 4,none⟩ = some vk ∧ RepV S w l[i] va vk:=by
  obtain ⟨b,off,va,vk,h1,h2,c0,c1,c2,c3,c4,h3⟩:=h.at_ i hi
  have hb:=hS b h2
  have k:=fun o => hw.cell (p:=⟨b,o,none⟩) hb
  exact ⟨b,off,va,vk,h1,h2,(k _).trans c0,(k _).trans c1,(k _).trans c2,(k _).trans c3,(k _).trans c4,h3⟩
set_option maxHeartbeats 4000000 in
set_option maxRecDepth 100000 in
theorem writeNodes {B F g : Nat} {P : List UInt8 → World → Prop} (hp : Puts B F g P) (w0 : World) (S : Nat → Prop) (hS : ∀ b,S b → b < B) (wt : Nat) : ∀ (v : Value) (l : List Nd) (raw : Bool) (acc : List UInt8) (w : World),M3.weight l < wt → FitN l → RepN S w0 v l → Below B w0 w → P acc w → acc.length + (M4.textB raw l).length ≤ 70368744177664 →
    Calls Tryz.prog 98 #[v,.bool raw,.func (.func F) #[] #[.pointer (some ⟨g,0,none⟩)]] w (PutPost B P (acc ++ M4.textB raw l) w):=by
  induction wt with
  | zero => intro v l raw acc w h; omega
  | succ wt ih =>
  intro v l raw acc w hwt hfit hr hw hP hl
  obtain ⟨a,cap,rfl⟩:=hr.slice
  obtain ⟨_,hlc,hcm⟩:=hr.len
  have hE:=hp.enter
  have hB:=hp.base _ _ hP
  replace ih:=Lib.hid ih
  replace hfit:=Lib.hid hfit
  replace hw:=Lib.hid hw
  have h0 : P (acc ++ M4.textB raw (l.take 0)) w:=by rw [List.take_zero,M4.textB_nil,List.append_nil]; exact hP
  go_enter Tryz.func98,Tryz.ntmps98
  go_wp2_with fail
  go_loopw [7,10] (fun _ u10 wr => ∃ i : Nat,i ≤ l.length ∧ u10 = .int .i64 (i : Int) ∧ P (acc ++ M4.textB raw (l.take i)) wr ∧ Kw B w wr) (fun _ u10 _ => l.length - (intOf u10).toNat)
  case atStart => exact ⟨0,by omega,rfl,h0,Kw.refl _ _⟩
  case round =>
    obtain ⟨i,hi,rfl,hP3,hk3⟩:=hrel
    by_cases hlt : i < l.length
    · have hrw:=hw.out.trans hk3.low
      obtain ⟨b,off,va,vk,rfl,hSb,c0,c1,c2,c3,c4,hrv⟩:=hr.look hS hrw i hlt
      have hbl:=hS b hSb
      have hz3:=hp.base _ _ hP3
      have hfx:=fitN_mem hfit.out (List.getElem_mem hlt)
      have hwk:=weight_mem (List.getElem_mem hlt)
      have hpre:=M4.textB_prefix raw l (i + 1)
      have htk:=M4.textB_take raw l i hlt
      rw [htk] at hpre
      rw [List.length_append] at hpre
      have hl3 : (acc ++ M4.textB raw (l.take i)).length + (M4.oneB raw l[i]).length ≤ 70368744177664:=by rw [List.length_append]; omega
      have hab : Hid (acc ++ M4.textB raw (l.take i) ++ M4.oneB raw l[i] = acc ++ M4.textB raw (l.take (i + 1))):=by show _ = _; rw [htk,List.append_assoc]
      clear hpre htk
      generalize l[i] = x at *
      generalize hA2 : acc ++ M4.textB raw (l.take (i + 1)) = A2 at *
      replace hA2:=Lib.hid hA2
      generalize acc ++ M4.textB raw (l.take i) = A1 at *
      obtain ⟨a1,e1,rfl⟩:=hrv.at_.slice
      obtain ⟨a2,e2,rfl⟩:=hrv.kids.slice
      have bo:=(Below.refl _ wr).alloc (Nat.le_refl _) (.cells (x.cells (.slice a1 x.attrs.length e1) (.slice a2 x.kids.length e2)).toArray 41)
      have hP4:=hp.stab _ _ _ hP3 bo
      have hk4:=Lib.hid (hk3.trans (Kw.of_below bo hz3))
      have bx:=Box.new wr 41 (x.cells (.slice a1 x.attrs.length e1) (.slice a2 x.kids.length e2))
      have hI0 : (i : Int) < (l.length : Int):=by omega
      have fin : ∀ W,P (A1 ++ M4.oneB raw x) W → P A2 W:=fun W h => hab.out ▸ h
      replace fin:=Lib.hid fin
      clear hab hP3 hk3
      have hrb:=hrw.trans (bo.mono hz3)
      replace hrw:=Lib.hid hrw
      by_cases k1 : x.kind = 1
      · have hEl:=Lib.hid (writeElement hp S x (.slice a1 x.attrs.length e1) (.slice a2 x.kids.length e2) A1 _ w0 hS hrv hrb hfx.1 hP4 k1 (fun acc raw W hW hPW hlW => ih.out _ _ raw acc W (by omega) hfx.2 hrv.kids hW hPW hlW) (by rw [M4.oneB_1 k1] at hl3 ⊢; exact hl3))
        have fin2:=Lib.hid (fun W (h : P (A1 ++ M4.oneB false x) W) => fin.out W (by rw [M4.oneB_1 k1] at h ⊢; exact h))
        have k1b : (x.kind == 1) = true:=by simpa using k1
        replace k1:=Lib.hid k1
        clear fin hrb
        go_wp2_with fail
        refine hEl.out.mono ?_
        rintro e w2 ⟨rfl,hP5,hk5⟩
        have hP6:=Lib.hid (fin2.out _ hP5)
        go_wp2_with fail
        go_roundw
        case rel => exact ⟨i + 1,by omega,by go_num,by rw [hA2.out]; exact hP6.out,hk4.out.trans hk5⟩
        case measure => exact wr_meas hlt
      have k1b : (x.kind == 1) = false:=by simpa using k1
      by_cases k2 : x.kind = 2
      · have hsz:=hfx.1.2.1
        rw [M4.oneB_2 k2] at hl3
        have hTx:=Lib.hid (writeText hp x.text raw A1 _ hP4 (by omega) hl3)
        have fin2:=Lib.hid (fun W (h : P (A1 ++ M4.charsB raw x.text) W) => fin.out W (by rw [M4.oneB_2 k2]; exact h))
        have k2b : (x.kind == 2) = true:=by simpa using k2
        replace k2:=Lib.hid k2
        clear fin hrb
        go_wp2_with fail
        refine hTx.out.mono ?_
        rintro e w2 ⟨rfl,hP5,hk5⟩
        have hP6:=Lib.hid (fin2.out _ hP5)
        go_wp2_with fail
        go_roundw
        case rel => exact ⟨i + 1,by omega,by go_num,by rw [hA2.out]; exact hP6.out,hk4.out.trans hk5⟩
        case measure => exact wr_meas hlt
      have k2b : (x.kind == 2) = false:=by simpa using k2
      by_cases k3 : x.kind = 3
      · have hsz:=hfx.1.2.1
        rw [M4.oneB_3 k3,M4.commB_len] at hl3
        have fin2:=Lib.hid (fun W (h : P (A1 ++ (⟨#[60,33,45,45]⟩ : ByteArray).data.toList ++ x.text.data.toList ++ (⟨#[45,45,62]⟩ : ByteArray).data.toList) W) => fin.out W (by rw [M4.oneB_3 k3,M4.commB]; simpa using h))
        have k3b : (x.kind == 3) = true:=by simpa using k3
        replace k3:=Lib.hid k3
        clear fin hrb
        go_wp2_with fail
        refine (hp.call A1 ⟨#[60,33,45,45]⟩ _ hP4 (by show A1.length + 4 ≤ _; omega)).mono ?_
        rintro e w2 ⟨rfl,hP5,hk5⟩
        have bx1:=hk5.box bx (.inl rfl)
        have d3:=bx1.cell (i:=3) rfl
        clear bx c0 c1 c2 c3 c4
        go_wp2_with fail
        refine (hp.call _ x.text _ hP5 (by rw [List.length_append]; show A1.length + 4 + x.text.size ≤ _; omega)).mono ?_
        rintro e w3 ⟨rfl,hP6,hk6⟩
        go_wp2_with fail
        refine (hp.call _ ⟨#[45,45,62]⟩ _ hP6 (by rw [List.length_append,List.length_append]; show A1.length + 4 + x.text.size + 3 ≤ _; omega)).mono ?_
        rintro e w4 ⟨rfl,hP7,hk7⟩
        have hP8:=Lib.hid (fin2.out _ hP7)
        clear hP7
        go_wp2_with fail
        go_roundw
        case rel => exact ⟨i + 1,by omega,by go_num,by rw [hA2.out]; exact hP8.out,((hk4.out.trans hk5).trans hk6).trans hk7⟩
        case measure => exact wr_meas hlt
      · have k3b : (x.kind == 3) = false:=by simpa using k3
        have hP5:=Lib.hid (fin.out _ (by rw [M4.oneB_4 k1 k2 k3,List.append_nil]; exact hP4))
        replace k1:=Lib.hid k1
        replace k2:=Lib.hid k2
        replace k3:=Lib.hid k3
        clear fin hrb
        go_wp2_with fail
        go_roundw
        case rel => exact ⟨i + 1,by omega,by go_num,by rw [hA2.out]; exact hP5.out,hk4.out⟩
        case measure => exact wr_meas hlt
    · obtain rfl : i = l.length:=by omega
      rw [List.take_length] at hP3
      replace hP3:=Lib.hid hP3
      go_wp2_with fail
      go_end0
      exact ⟨rfl,hP3.out,hk3⟩
end Go.Proofs.YteefodibpjgicaaGreat

namespace Go.Proofs.YteefodibpjgicaaGreat
open Go.RowKit Go.Shelf
def PB (b : Nat) (acc : List UInt8) (w : World) : Prop:=Lib.IsBuilderF 120 5 b b (u8s acc) w ∧ b ≤ w.heap.size
theorem isBuilderF_below {T e : TypeId} {B b : Nat} {bs : List Value} {w w' : World} (h : Lib.IsBuilderF T e B b bs w) (hb : Below w.heap.size w w') : Lib.IsBuilderF T e B b bs w':=by
  have key : ∀ p,Lib.BuilderAtF T e B b p bs w → Lib.BuilderAtF T e B b p bs w':=by
    rintro p ⟨h1,v,h2,h3,h4⟩
    refine ⟨h1,v,(hb.block b (Array.getElem?_eq_some_iff.1 h2).1).trans h2,⟨h3.1,?_⟩,h4⟩
    rcases h3.2 with h5 | ⟨g,cap,cur,fz,hv,hg1,hg2,hg3⟩
    · exact .inl h5
    · exact .inr ⟨g,cap,cur,fz,hv,hg1,(hb.block g (Array.getElem?_eq_some_iff.1 hg2).1).trans hg2,hg3⟩
  exact h.elim (fun x => .inl (key _ x)) (fun x => .inr (key _ x))
theorem kn_of_others {b : Nat} {w w' : World} (h : Below b w w') (k : Lib.OthersKept 5 (some b) w w') (hb : ∃ c fr,w.heap[b]? = some (.cells c 120 fr)) : Kw b w w':=by
  refine ⟨h,fun i c t fr hi ht => k i _ hi ?_ ?_⟩
  · intro e
    obtain ⟨c',fr',h'⟩:=hb
    cases e
    rw [h'] at hi
    cases hi
    rcases ht with h | h | h <;> exact absurd h (by decide)
  · intro c' fz e
    cases e
    rcases ht with h | h | h <;> exact absurd h (by decide)
set_option maxHeartbeats 2000000 in
set_option maxRecDepth 100000 in
theorem putsB (b : Nat) : Puts b 105 b (PB b) where
  enter:=enters_of Tryz.func105 (by kernel_rfl) rfl
  base:=fun acc w h => h.2
  stab:=fun acc w w' h hb => ⟨isBuilderF_below h.1 hb,Nat.le_trans h.2 hb.size⟩
  call:=by
    intro acc s w h hl
    have hw:=Lib.hid (bWriteString b b (u8s acc) s w h.1 (by rw [u8s_length]; omega) h.2)
    have hblk : ∃ c fr,w.heap[b]? = some (.cells c 120 fr):=by
      rcases h.1 with ⟨_,v,hv,_⟩ | ⟨_,v,hv,_⟩ <;> exact ⟨_,_,hv⟩
    have hb:=h.2
    replace hblk:=Lib.hid hblk
    clear h
    go_enter Tryz.func105,Tryz.ntmps105
    go_wp2_with fail
    refine hw.out.mono ?_
    rintro e w1 ⟨rfl,h1,h2,h3⟩
    have hP : PB b (acc ++ s.data.toList) w1:=⟨.inr (by rw [u8s_append]; exact h1),Nat.le_trans hb h2.size⟩
    have hK:=kn_of_others h2 h3 hblk.out
    replace hP:=Lib.hid hP
    go_wp2_with fail
    go_end0
    exact ⟨rfl,hP.out,hK⟩
def TextPost (out : List UInt8) (w : World) (e : Ending) (w' : World) : Prop:=e = .returned (.string ⟨out.toArray⟩) ∧ Below w.heap.size w w'
set_option maxHeartbeats 2000000 in
set_option maxRecDepth 100000 in
theorem writeJoined (G h : Nat) (out : List UInt8) (w : World) (hE : ∀ (args : Array Value) (w : World),(callFunc G args).run Tryz.prog w = .ok (.enter G args) w)
    (hG : ∀ w1,Below w.heap.size w w1 → PB w.heap.size [] w1 → Calls Tryz.prog G #[.func (.func 105) #[] #[.pointer (some ⟨w.heap.size,0,none⟩)],.pointer (some ⟨h,0,none⟩)] w1 (PutPost w.heap.size (PB w.heap.size) out w1)) :
    Calls Tryz.prog 96 #[.func (.func G) #[] #[.pointer (some ⟨h,0,none⟩)]] w (TextPost out w):=by
  have b0 : Below w.heap.size w (w.alloc (.cells #[.pointer none,.slice none 0 0] 120)):=(Below.refl _ w).alloc (Nat.le_refl _) _
  have h0 : PB w.heap.size [] (w.alloc (.cells #[.pointer none,.slice none 0 0] 120)):=⟨Lib.IsBuilderF.of (Lib.fresh_isBuilder 120 5 w),by simp⟩
  have hG1:=Lib.hid (hG _ b0 h0)
  replace b0:=Lib.hid b0
  clear hG h0
  go_enter Tryz.func96,Tryz.ntmps96
  go_wp2_with fail
  refine hG1.out.mono ?_
  rintro e w1 ⟨rfl,hP1,hk1⟩
  clear hG1
  go_wp2_with fail
  refine (bString w.heap.size w.heap.size _ _ hP1.1 hP1.2).mono ?_
  rintro e w2 ⟨rfl,_,b1,_⟩
  go_wp2_with fail
  go_ret
  exact ⟨rfl,(b0.out.trans hk1.low).trans b1⟩
set_option maxHeartbeats 2000000 in
set_option maxRecDepth 100000 in
theorem writeText1 {B F g : Nat} {P : List UInt8 → World → Prop} (hp : Puts B F g P) (w0 : World) (S : Nat → Prop) (hS : ∀ b,S b → b < B) (h : Nat) (v : Value) (l : List Nd) (acc : List UInt8) (w : World) (hc : w.cell? ⟨h,0,none⟩ = some v) (hf : FitN l) (hr : RepN S w0 v l) (hw : Below B w0 w) (hP : P acc w) (hl : acc.length + (M4.textB false l).length ≤ 70368744177664) :
    Calls Tryz.prog 97 #[.func (.func F) #[] #[.pointer (some ⟨g,0,none⟩)],.pointer (some ⟨h,0,none⟩)] w (PutPost B P (acc ++ M4.textB false l) w):=by
  have hN:=Lib.hid (writeNodes hp w0 S hS (M3.weight l + 1) _ l false acc w (by omega) hf hr hw hP hl)
  obtain ⟨a,cap,rfl⟩:=hr.slice
  clear hP hw
  go_enter Tryz.func97,Tryz.ntmps97
  go_wp2_with fail
  refine hN.out.mono ?_
  rintro e w2 ⟨rfl,hP2,hk2⟩
  replace hP2:=Lib.hid hP2
  go_wp2_with fail
  go_end0
  exact ⟨rfl,hP2.out,hk2⟩
set_option maxHeartbeats 2000000 in
set_option maxRecDepth 100000 in
theorem writeTextOf (S : Nat → Prop) (v : Value) (l : List Nd) (w : World) (hS : ∀ b,S b → b < w.heap.size) (hr : RepN S w v l) (hf : FitN l) (hl : (M4.textB false l).length ≤ 70368744177664) :
    Calls Tryz.prog 78 #[v] w (TextPost (M4.textB false l) w):=by
  obtain ⟨a,cap,rfl⟩:=hr.slice
  have b0 : Below w.heap.size w (w.alloc (.cells #[.slice a l.length cap] 25)):=(Below.refl _ w).alloc (Nat.le_refl _) _
  have hJ:=Lib.hid (writeJoined 97 w.heap.size (M4.textB false l) (w.alloc (.cells #[.slice a l.length cap] 25)) (enters_of Tryz.func97 (by kernel_rfl) rfl) (fun w1 hb1 hP1 =>
    writeText1 (putsB _) (w.alloc (.cells #[.slice a l.length cap] 25)) S (fun b h => by have:=hS b h; simp; omega) w.heap.size _ l [] w1 ((hb1.cell (p:=⟨w.heap.size,0,none⟩) (by simp)).trans ((Box.new w 25 [.slice a l.length cap]).cell (i:=0) rfl)) hf (hr.keep (fun b h => b0.block b (hS b h))) hb1 hP1 (by simpa using hl)))
  replace b0:=Lib.hid b0
  go_enter Tryz.func78,Tryz.ntmps78
  go_wp2_with fail
  refine hJ.out.mono ?_
  rintro e w2 ⟨rfl,hb2⟩
  go_wp2_with fail
  go_ret
  exact ⟨rfl,b0.out.trans (hb2.mono (by simp))⟩
end Go.Proofs.YteefodibpjgicaaGreat

namespace Go.Proofs.YteefodibpjgicaaGreat
open Go.RowKit
theorem TokR.ofT {w : World} {B : Nat} {v : Value} {l : List Tok} (h : Toks w B v l) : TokR (fun b => B ≤ b ∧ b < w.heap.size) w v l:=by
  obtain ⟨xs,h1,h2⟩:=h.rows
  exact ⟨xs,h1,h2⟩
set_option maxHeartbeats 2000000 in
set_option maxRecDepth 100000 in
theorem parTreeNext (S : Nat → Prop) (v : Value) (l : List Nd) (w : World) (hS : ∀ b,S b → b < w.heap.size) (hr : RepN S w v l) (hf : FitN l) (hl : (M4.textB false l).length ≤ 70368744177664) :
    Calls Tryz.prog 55 #[v] w fun e w' => e = .returned (.iface 47 (.string ⟨(M4.textB false l).toArray⟩)) ∧ Below w.heap.size w w':=by
  have hT:=Lib.hid (writeTextOf S v l w hS hr hf hl)
  obtain ⟨a,cap,rfl⟩:=hr.slice
  go_enter Tryz.func55,Tryz.ntmps55
  go_wp2_with fail
  refine hT.out.mono ?_
  rintro e w1 ⟨rfl,hb⟩
  go_wp2_with fail
  go_ret
  exact ⟨rfl,hb⟩
set_option maxHeartbeats 2000000 in
set_option maxRecDepth 100000 in
theorem parSourceNext (v : Value) (l : List UInt8) (w : World) (hs : Sl w v (u8s l)) (hl : l.length ≤ 1073741824) :
    Calls Tryz.prog 150 #[v] w fun e w' => e = .returned (.iface 47 (.string (M5.bs (M1.right l)))) ∧ Below w.heap.size w w':=by
  have hT:=Lib.hid (utfRight v l w hs hl)
  obtain ⟨a,cap,rfl,-,-⟩:=hs.len8
  clear hs
  go_enter Tryz.func150,Tryz.ntmps150
  go_wp2_with fail
  refine hT.out.mono ?_
  rintro e w1 ⟨rfl,hb⟩
  go_wp2_with fail
  go_ret
  exact ⟨rfl,hb⟩
set_option maxHeartbeats 2000000 in
set_option maxRecDepth 100000 in
theorem parRightNext (s : ByteArray) (w : World) (hg : Glo w) (hs : s.size ≤ 1073741824) :
    Calls Tryz.prog 155 #[.string s] w fun e w' => ∃ v,e = .returned (.iface 161 v) ∧ Toks w' w.heap.size v (M5.tokens s.data.toList) ∧ Below w.heap.size w w':=by
  have hT:=Lib.hid (tokTokens s w hg hs)
  go_enter Tryz.func155,Tryz.ntmps155
  go_wp2_with fail
  refine hT.out.mono ?_
  rintro e w1 ⟨v,rfl,hl,hb⟩
  obtain ⟨a,cap,rfl⟩:=hl.slice
  go_wp2_with fail
  go_ret
  exact ⟨_,rfl,hl,hb⟩
set_option maxHeartbeats 2000000 in
set_option maxRecDepth 100000 in
theorem parTokensNext (S : Nat → Prop) (v : Value) (l : List Tok) (w : World) (hS : ∀ b,S b → b < w.heap.size) (hr : TokR S w v l) (hf : FitL l) :
    Calls Tryz.prog 202 #[v] w fun e w' => ∃ v',e = .returned (.iface 44 v') ∧ Fresh w' w.heap.size v' (M7.tree l) ∧ Below w.heap.size w w':=by
  have hT:=Lib.hid (bTree S v l w hS hr hf)
  obtain ⟨a,cap,rfl⟩:=hr.slice
  go_enter Tryz.func202,Tryz.ntmps202
  go_wp2_with fail
  refine hT.out.mono ?_
  rintro e w1 ⟨v',rfl,hl,hb⟩
  obtain ⟨a,cap,rfl⟩:=hl.rep.slice
  go_wp2_with fail
  go_ret
  exact ⟨_,rfl,hl,hb⟩
theorem as_source (v : Value) (w : World) : (Instr.typeAssert (.iface 46 v) 57 44 true).run Tryz.prog w = .ok (.tuple #[.slice none 0 0,.bool false]) w:=by kernel_rfl
theorem as_right (v : Value) (w : World) : (Instr.typeAssert (.iface 47 v) 57 44 true).run Tryz.prog w = .ok (.tuple #[.slice none 0 0,.bool false]) w:=by kernel_rfl
theorem as_tokens (v : Value) (w : World) : (Instr.typeAssert (.iface 161 v) 57 44 true).run Tryz.prog w = .ok (.tuple #[.slice none 0 0,.bool false]) w:=by kernel_rfl
theorem as_tree (v : Value) (w : World) : (Instr.typeAssert (.iface 44 v) 57 44 true).run Tryz.prog w = .ok (.tuple #[v,.bool true]) w:=by kernel_rfl
theorem as_text (v : Value) (w : World) : (Instr.typeAssert (.iface 47 v) 57 47 false).run Tryz.prog w = .ok v w:=by kernel_rfl
theorem in_source (n : Nat) (v : Value) (w : World) : (method (n + 1) 46 v "strainer/parse.next").run Tryz.prog w = .ok (150, v) w := by kernel_rfl
theorem in_right (n : Nat) (v : Value) (w : World) : (method (n + 1) 47 v "strainer/parse.next").run Tryz.prog w = .ok (155, v) w := by kernel_rfl
theorem in_tokens (n : Nat) (v : Value) (w : World) : (method (n + 1) 161 v "strainer/parse.next").run Tryz.prog w = .ok (202, v) w := by kernel_rfl
def St8 (S : Nat → Prop) (w0 wr : World) (L : List Nd) (u : Value) (k : Nat) : Prop :=
  (k = 3 ∧ ∃ v l,u = .iface 46 v ∧ Sl wr v (u8s l) ∧ l.length ≤ 20000 ∧ M7.tree (M5.tokens (M1.right l)) = L) ∨
  (k = 2 ∧ ∃ s : ByteArray,u = .iface 47 (.string s) ∧ s.size ≤ 1073741824 ∧ FitL (M5.tokens s.data.toList) ∧ M7.tree (M5.tokens s.data.toList) = L) ∨
  (k = 1 ∧ ∃ v T,u = .iface 161 v ∧ (∃ B,Toks wr B v T) ∧ FitL T ∧ M7.tree T = L) ∨
  (k = 0 ∧ ∃ v,u = .iface 44 v ∧ RepN (fun b => S b ∨ (w0.heap.size ≤ b ∧ b < wr.heap.size)) wr v L)
set_option maxHeartbeats 4000000 in
set_option maxRecDepth 100000 in
theorem parParsed (S : Nat → Prop) (u : Value) (k : Nat) (L : List Nd) (w : World) (hg : Glo w) (hS : ∀ b,S b → b < w.heap.size) (hu : St8 S w w L u k) :
    Calls Tryz.prog 29 #[u] w (ShrP S L w):=by
  obtain ⟨wo,rfl⟩ : ∃ wo : World,wo = w:=⟨_,rfl⟩
  go_enter Tryz.func29,Tryz.ntmps29
  go_wp2_with fail
  go_loopw [0] (fun u0 wr => ∃ k,St8 S wo wr L u0 k ∧ Below wo.heap.size wo wr) (fun u0 _ => match u0 with | .iface t _ => if t = 46 then 3 else if t = 47 then 2 else if t = 161 then 1 else 0 | _ => 0)
  case atStart => exact ⟨k,hu,Below.refl _ _⟩
  case round =>
    obtain ⟨k,hk,hb⟩:=hrel
    have hz:=hb.size
    rcases hk with ⟨-,v,l,rfl,hs,hl,hL⟩ | ⟨-,s,rfl,hs,hfit0,hL⟩ | ⟨-,v,T,rfl,hT,hf,hL⟩ | ⟨-,v,rfl,hr⟩
    · have a1:=as_source v
      have i1:=fun n => in_source n v
      have hC:=Lib.hid (parSourceNext v l wr hs (by omega))
      clear hs
      go_wp2_with fail
      refine hC.out.mono ?_
      rintro e w1 ⟨rfl,hb1⟩
      go_wp2_with fail
      go_roundw
      case rel => exact ⟨2,.inr (.inl ⟨rfl,_,rfl,by rw [bs_size]; have:=M1.right_len l; omega,by rw [M5.bs_data]; exact (M5.toks_fit _ (by have:=M1.right_len l; omega)).1,by rw [M5.bs_data]; exact hL⟩),bt hb hb1⟩
      case measure => exact Nat.lt_of_sub_pos Nat.one_pos
    · have a1:=fun x => as_right x
      have i1:=fun n => in_right n (.string s)
      have hC:=Lib.hid (parRightNext s wr (hg.below hb (Nat.le_refl _)) (by omega))
      have hfit:=Lib.hid hfit0
      clear hfit0
      go_wp2_with fail
      refine hC.out.mono ?_
      rintro e w1 ⟨v,rfl,hT,hb1⟩
      obtain ⟨a,cap,rfl⟩:=hT.slice
      go_wp2_with fail
      go_roundw
      case rel => exact ⟨1,.inr (.inr (.inl ⟨rfl,_,_,rfl,⟨_,hT⟩,hfit.out,hL⟩)),bt hb hb1⟩
      case measure => exact Nat.lt_of_sub_pos Nat.one_pos
    · obtain ⟨B,hT⟩:=hT
      have hTR:=TokR.ofT hT
      obtain ⟨a,cap,rfl⟩:=hT.slice
      have a1:=fun x => as_tokens x
      have i1:=fun n => in_tokens n (.slice a T.length cap)
      have hC:=Lib.hid (parTokensNext _ _ T wr (fun b h => h.2) hTR hf)
      clear hT hTR
      go_wp2_with fail
      refine hC.out.mono ?_
      rintro e w1 ⟨v,rfl,hF,hb1⟩
      have hR:=hF.rep
      obtain ⟨a,cap,rfl⟩:=hR.slice
      clear hF
      go_wp2_with fail
      go_roundw
      case rel => exact ⟨0,.inr (.inr (.inr ⟨rfl,_,rfl,by rw [← hL]; exact hR.mono fun b h => .inr ⟨by omega,h.2⟩⟩)),bt hb hb1⟩
      case measure => exact Nat.lt_of_sub_pos Nat.one_pos
    · have a1:=as_tree v
      have hres : ShrP S L wo (.returned v) wr:=⟨v,rfl,hr,hb⟩
      clear hr
      go_wp2_with fail
      go_ret
      exact hres
set_option maxHeartbeats 2000000 in
set_option maxRecDepth 100000 in
theorem parBytes (v : Value) (l : List UInt8) (w : World) (hg : Glo w) (hs : Sl w v (u8s l)) (hl : l.length ≤ 20000) :
    Calls Tryz.prog 11 #[v] w (ShrP (fun _ => False) (M7.tree (M5.tokens (M1.right l))) w):=by
  have hP:=Lib.hid (parParsed (fun _ => False) (.iface 46 v) 3 _ w hg (fun _ h => h.elim) (.inl ⟨rfl,v,l,rfl,hs,hl,rfl⟩))
  obtain ⟨a,cap,rfl,-,-⟩:=hs.len8
  clear hs
  go_enter Tryz.func11,Tryz.ntmps11
  go_wp2_with fail
  refine hP.out.mono ?_
  rintro e w1 ⟨v1,rfl,hr,hb⟩
  have hres : ShrP (fun _ => False) (M7.tree (M5.tokens (M1.right l))) w (.returned v1) w1:=⟨v1,rfl,hr,hb⟩
  obtain ⟨a1,c1,rfl⟩:=hr.slice
  clear hr
  go_wp2_with fail
  go_ret
  exact hres
def TxtW (out : List UInt8) (w : World) (e : Ending) (w' : World) : Prop:=e = .returned (.string ⟨out.toArray⟩) ∧ Below w.heap.size w w'
set_option maxHeartbeats 2000000 in
set_option maxRecDepth 100000 in
theorem parWritten (S : Nat → Prop) (u : Value) (k : Nat) (L : List Nd) (w : World) (hg : Glo w) (hS : ∀ b,S b → b < w.heap.size) (hu : St8 S w w L u k) (hf : FitN L) (hl : (M4.textB false L).length ≤ 70368744177664) :
    Calls Tryz.prog 37 #[u] w (TxtW (M4.textB false L) w):=by
  have hP:=Lib.hid (parParsed S u k L w hg hS hu)
  have a1:=fun x => as_text x
  clear hu
  obtain ⟨wo,rfl⟩ : ∃ wo : World,wo = w:=⟨_,rfl⟩
  go_enter Tryz.func37,Tryz.ntmps37
  go_wp2_with fail
  refine hP.out.mono ?_
  rintro e w1 ⟨v1,rfl,hr,hb⟩
  have hz:=hb.size
  have hN:=Lib.hid (parTreeNext _ v1 L w1 (fun b h => by
    rcases h with h | h
    · have:=hS b h; omega
    · exact h.2) hr hf hl)
  obtain ⟨a1',c1,rfl⟩:=hr.slice
  clear hr
  go_wp2_with fail
  refine hN.out.mono ?_
  rintro e w2 ⟨rfl,hb2⟩
  have hb02:=bt hb hb2
  go_wp2_with fail
  go_ret
  exact ⟨rfl,hb02⟩
def again (l : List Nd) : List Nd:=if M3.mayE false l = 0 then M7.tree (M5.tokens (M4.textB false l)) else []
set_option maxHeartbeats 4000000 in
set_option maxRecDepth 100000 in
theorem parAgain (S : Nat → Prop) (v : Value) (l : List Nd) (w : World) (hg : Glo w) (hS : ∀ b,S b → b < w.heap.size) (hr : RepN S w v l) (hf : FitN l) (hl : (M4.textB false l).length ≤ 1073741824) (hft : FitL (M5.tokens (M4.textB false l))) :
    Calls Tryz.prog 20 #[v] w (ShrP (fun _ => False) (again l) w):=by
  have hM:=Lib.hid (domMay S v l w hS hr hf)
  obtain ⟨wo,rfl⟩ : ∃ wo : World,wo = w:=⟨_,rfl⟩
  have hW:=Lib.hid (fun W (hb : Below wo.heap.size wo W) => parWritten S (.iface 44 v) 0 l W (hg.below hb (Nat.le_refl _)) (fun b h => by have:=hS b h; have:=hb.size; omega) (.inr (.inr (.inr ⟨rfl,v,rfl,(hr.below hS hb).mono fun b h => .inl h⟩))) hf (by omega))
  have hP:=Lib.hid (fun W (hb : Below wo.heap.size wo W) => parParsed (fun _ => False) (.iface 47 (.string (M5.bs (M4.textB false l)))) 2 (M7.tree (M5.tokens (M4.textB false l))) W (hg.below hb (Nat.le_refl _)) (fun _ h => h.elim) (.inr (.inl ⟨rfl,_,rfl,by rw [bs_size]; exact hl,by rw [M5.bs_data]; exact hft,by rw [M5.bs_data]⟩)))
  obtain ⟨a,cap,rfl⟩:=hr.slice
  clear hr hl
  by_cases hm : M3.mayE false l = 0
  · rw [show again l = M7.tree (M5.tokens (M4.textB false l)) from if_pos hm]
    rw [hm] at hM
    go_enter Tryz.func20,Tryz.ntmps20
    go_wp2_with fail
    refine hM.out.mono ?_
    rintro e w1 ⟨rfl,hb⟩
    have hW1:=Lib.hid (hW.out _ hb)
    clear hW
    go_wp2_with fail
    refine hW1.out.mono ?_
    rintro e w2 ⟨rfl,hb2⟩
    have hb02:=bt hb hb2
    have hP1:=Lib.hid (hP.out _ hb02)
    clear hP
    go_wp2_with fail
    refine hP1.out.mono ?_
    rintro e w3 ⟨v3,rfl,hr3,hb3⟩
    have hz2:=hb02.size
    have hres : Hid (ShrP (fun _ => False) (M7.tree (M5.tokens (M4.textB false l))) wo (.returned v3) w3):=⟨v3,rfl,hr3.mono fun b h => h.elim (fun h => h.elim) (fun h => .inr ⟨by omega,h.2⟩),bt hb02 hb3⟩
    obtain ⟨a3,c3,rfl⟩:=hr3.slice
    clear hr3
    go_wp2_with fail
    go_ret
    exact hres.out
  · rw [show again l = [] from if_neg hm]
    go_enter Tryz.func20,Tryz.ntmps20
    go_wp2_with fail
    refine hM.out.mono ?_
    rintro e w1 ⟨rfl,hb⟩
    have h0 : decide (M3.mayE false l ≠ 0) = true:=decide_eq_true hm
    clear hW hP
    go_wp2_with fail
    go_ret
    exact ⟨_,rfl,RepN.nil _ _,hb⟩
end Go.Proofs.YteefodibpjgicaaGreat
