/- Texts joined: Law08a. -/
import Derived.Test.YteefodibpjgicaaGreatA23
import Derived.Test.YteefodibpjgicaaGreatA52
import Derived.Test.YteefodibpjgicaaGreatA53
namespace Go.Proofs.YteefodibpjgicaaGreat
open Go.RowKit
theorem smr_few (l : List Nd) : Sm30 l → SmR l:=by
  induction l using Nd.ind with
  | h0 => intro _; exact smr_nil
  | h1 k n a t ks r ih1 ih2 =>
    intro h
    obtain ⟨s1,s2,s3⟩:=sm_cons.1 h
    exact smr_cons.2 ⟨⟨s1.1,fun b hb => ⟨(s1.2.2 b hb).1,by have:=(s1.2.2 b hb).2; omega⟩⟩,ih1 s2,ih2 s3⟩
theorem cst_few (l : List Nd) : Sm30 l → cst l ≤ 785 * M3.weight l:=by
  induction l using Nd.ind with
  | h0 => intro _; rw [cst_nil]; exact Nat.zero_le _
  | h1 k n a t ks r ih1 ih2 =>
    intro h
    obtain ⟨s1,s2,s3⟩:=sm_cons.1 h
    have h1:=ih1 s2
    have h2:=ih2 s3
    have h3 : t.size ≤ 30:=s1.2.1
    rw [cst_cons,M3.weight_cons]
    show 65 + 754 * a.length + 6 * t.size + cst ks + _ ≤ 785 * (1 + a.length + M3.weight ks + M3.weight r)
    omega
theorem few_text (l : List Nd) (raw : Bool) : (M4.textB raw (fewN l)).length ≤ 188400:=by
  have h1:=text_cst (fewN l) raw (smr_few _ (few_sm l))
  have h2:=cst_few (fewN l) (few_sm l)
  have h3:=fewN_weight l
  omega
theorem few_kept (l : List Nd) (h : M3.mayE false l ≠ 0) : M3.sameN (again l) l = false:=by
  cases hk : M3.sameN (again l) l
  · rfl
  · exfalso
    have e:=sameN_eq _ _ hk
    rw [show again l = [] from if_neg h] at e
    rw [← e] at h
    exact h (M3.mayE_nil _)
theorem ref8_of (l : List UInt8) (h : l.length ≤ 200000) : REF8 l:=by
  have h1 : M5.qs (M5.tokens l) ≤ 2 * (0 + l.length):=M5.toks_Q2 l.length l [] (Nat.le_refl _)
  have h2:=M5.sum_le_of (f:=M7.tokW) (g:=tokQ) (M5.tokens l) M5.tokW_le
  have h3:=M5.sum_le_of (f:=fun t => t.text.size) (g:=tokQ) (M5.tokens l) (fun t => by unfold tokQ; omega)
  have h4:=len_sumQ (M5.tokens l)
  unfold M5.qs at h1
  exact ⟨by omega,by omega,by omega⟩
set_option maxHeartbeats 4000000 in
set_option maxRecDepth 100000 in
theorem ref08Again (S : Nat → Prop) (v : Value) (l : List Nd) (w : World) (hS : ∀ b,S b → b < w.heap.size) (hr : RepN S w v l) (hf : FitN l) (hl : (M4.textB false l).length ≤ 200000) :
    Calls Tryz.prog 18 #[v] w (ShrP (fun _ => False) (again l) w):=by
  have hM:=Lib.hid (ref03May (M3.weight l + 1) S v l w (by omega) hf hS hr)
  have hT:=Lib.hid (fun W (hb : Below w.heap.size w W) => ref04Text S v l W (fun b h => Nat.lt_of_lt_of_le (hS b h) hb.size) (hr.below hS hb) hf (by omega))
  have hP:=Lib.hid (fun W => ref08Text (M5.bs (M4.textB false l)) W (by rw [bs_size]; omega) (by rw [M5.bs_data]; exact ref8_of _ hl))
  rw [M5.bs_data] at hP
  obtain ⟨a,cap,rfl⟩:=hr.slice
  obtain ⟨wo,rfl⟩ : ∃ wo : World,wo = w:=⟨_,rfl⟩
  clear hr hl
  by_cases hm : M3.mayE false l = 0
  · rw [show again l = M7.tree (M5.tokens (M4.textB false l)) from if_pos hm]
    rw [hm] at hM
    go_enter Tryz.func18,Tryz.ntmps18
    go_wp2_with fail
    refine hM.out.mono ?_
    rintro e w1 ⟨rfl,hb1⟩
    have hT1:=Lib.hid (hT.out _ hb1)
    clear hM hT
    go_wp2_with fail
    refine hT1.out.mono ?_
    rintro e w2 ⟨rfl,hb2⟩
    have hb02:=bt hb1 hb2
    have hz:=hb02.size
    have hP2:=Lib.hid (hP.out w2)
    clear hT1 hP
    go_wp2_with fail
    refine hP2.out.mono ?_
    rintro e w3 ⟨v3,rfl,hr3,hb3⟩
    have hres : Hid (ShrP (fun _ => False) (M7.tree (M5.tokens (M4.textB false l))) wo (.returned v3) w3):=⟨v3,rfl,hr3.mono fun b h => h.elim (fun h => h.elim) (fun h => .inr ⟨by omega,h.2⟩),bt hb02 hb3⟩
    obtain ⟨a3,c3,rfl⟩:=hr3.slice
    clear hr3
    go_wp2_with fail
    go_ret
    exact hres.out
  · rw [show again l = [] from if_neg hm]
    have h0 : decide (M3.mayE false l = 0) = false:=decide_eq_false hm
    clear hT hP
    go_enter Tryz.func18,Tryz.ntmps18
    go_wp2_with fail
    refine hM.out.mono ?_
    rintro e w1 ⟨rfl,hb1⟩
    go_wp2_with fail
    go_ret
    exact ⟨_,rfl,RepN.nil _ _,hb1⟩
set_option maxHeartbeats 8000000 in
set_option maxRecDepth 100000 in
theorem law08ParseAgain (S : Nat → Prop) (v : Value) (l : List Nd) (w : World) (hg : Glo w) (hS : ∀ b,S b → b < w.heap.size) (hr : RepN S w v l) (hsz : SzN l) : Calls Tryz.prog 4 #[v] w fun e w' => e = .returned (.bool true) ∧ Below w.heap.size w w':=by
  have hF:=Lib.hid (ref03Few S v l w hS hr hsz)
  have hfF : FitN (fewN l):=cut_fit l 40 (by omega)
  have hsF:=fit_szN _ hfF
  have htF:=few_text l false
  have hkF:=M5.toks_fit3 (M4.textB false (fewN l)) (by omega)
  have hwF:=fewN_weight l
  have hfG:=gd_fit (fewN l)
  have htG:=gd_text (fewN l) false
  have hkG:=gd_toks (fewN l)
  have hGd:=Lib.hid (fun (W : World) (v : Value) (hr : RepN (fun b => b < W.heap.size) W v (fewN l)) => ref03Good _ v (fewN l) W (fun b h => h) hr hsF)
  obtain ⟨a,cap,rfl⟩:=hr.slice
  clear hr hsz hsF
  generalize gdN (fewN l) = G at *
  generalize fewN l = F at *
  have hA8F:=Lib.hid (fun (W : World) (v : Value) (hr : RepN (fun b => b < W.heap.size) W v F) => ref08Again _ v F W (fun b h => h) hr hfF (by omega))
  have hA8G:=Lib.hid (fun (W : World) (v : Value) (hr : RepN (fun b => b < W.heap.size) W v G) => ref08Again _ v G W (fun b h => h) hr hfG (by omega))
  have hMy:=Lib.hid (fun (W : World) (v : Value) (hr : RepN (fun b => b < W.heap.size) W v F) => ref03May (M3.weight F + 1) _ v F W (by omega) hfF (fun b h => h) hr)
  have hPF:=Lib.hid (fun (W : World) (v : Value) (hg : Glo W) (hr : RepN (fun b => b < W.heap.size) W v F) => parAgain _ v F W hg (fun b h => h) hr hfF (by omega) hkF)
  have hPG:=Lib.hid (fun (W : World) (v : Value) (hg : Glo W) (hr : RepN (fun b => b < W.heap.size) W v G) => parAgain _ v G W hg (fun b h => h) hr hfG (by omega) hkG)
  have hKF:=Lib.hid (fun (W : World) (v : Value) (hg : Glo W) (hr : RepN (fun b => b < W.heap.size) W v F) => parKeeps _ v F W hg (fun b h => h) hr hfF (by omega) hkF)
  have hKG:=Lib.hid (fun (W : World) (v : Value) (hg : Glo W) (hr : RepN (fun b => b < W.heap.size) W v G) => parKeeps _ v G W hg (fun b h => h) hr hfG (by omega) hkG)
  have hno:=Lib.hid (few_kept F)
  clear hfF hkF hfG hkG htF htG hwF
  generalize again G = AG at *
  generalize again F = AF at *
  obtain ⟨wo,rfl⟩ : ∃ wo : World,wo = w:=⟨_,rfl⟩
  go_enter Tryz.func4,Tryz.ntmps4
  go_wp2_with fail
  refine hF.out.mono ?_
  rintro e w1 ⟨v1,rfl,hM1,hb1⟩
  have hr1:=hM1.rep
  have q1 : Hid (∀ W,Below w1.heap.size w1 W → RepN (fun b => b < W.heap.size) W v1 F):=fun W hb => (hr1.below (fun b h => h.2) hb).mono fun b h => Nat.lt_of_lt_of_le h.2 hb.size
  have hG1:=Lib.hid (hGd.out w1 v1 (q1.out _ (Below.refl _ _)))
  obtain ⟨a1,c1,rfl⟩:=hr1.slice
  clear hM1 hr1 hF hGd
  go_wp2_with fail
  refine hG1.out.mono ?_
  rintro e w2 ⟨v2,rfl,hF2,hb2⟩
  have hr2:=hF2.rep
  have q2 : Hid (∀ W,Below w2.heap.size w2 W → RepN (fun b => b < W.heap.size) W v2 G):=fun W hb => (hr2.below (fun b h => h.2) hb).mono fun b h => Nat.lt_of_lt_of_le h.2 hb.size
  obtain ⟨a2,c2,rfl⟩:=hr2.slice
  have h3:=Lib.hid (hA8F.out w2 _ (q1.out _ hb2))
  clear hF2 hr2 hG1 hA8F
  go_wp2_with fail
  refine h3.out.mono ?_
  rintro e w3 ⟨v3,rfl,hr3,hb3⟩
  have q3 : Hid (∀ W,Below w3.heap.size w3 W → RepN (fun b => b < W.heap.size) W v3 AF):=fun W hb => ((shr_lt hr3).below (fun b h => h) hb).mono fun b h => Nat.lt_of_lt_of_le h hb.size
  obtain ⟨a3,c3,rfl⟩:=hr3.slice
  have h4:=Lib.hid (hA8G.out w3 _ (q2.out _ hb3))
  clear hr3 h3 hA8G
  go_upto_region 5 with (refine h4.out.mono ?_; rintro e w4 ⟨v4,rfl,hr4,hb4⟩; obtain ⟨a4,c4,rfl⟩:=hr4.slice)
  have q4 : Hid (∀ W,Below w4.heap.size w4 W → RepN (fun b => b < W.heap.size) W (.slice a4 AG.length c4) AG):=fun W hb => ((shr_lt hr4).below (fun b h => h) hb).mono fun b h => Nat.lt_of_lt_of_le h hb.size
  have b14 : Below w1.heap.size w1 w4:=bt hb2 (bt hb3 hb4)
  have b24 : Below w2.heap.size w2 w4:=bt hb3 hb4
  have b04 : Below wo.heap.size wo w4:=bt hb1 b14
  have h5:=Lib.hid (hMy.out w4 _ (q1.out _ b14))
  clear hr4 h4 hMy
  go_cut [6] from 16 to 23 (fun s6 wx => s6 = .bool (M3.sameN AF F) ∧ Below w4.heap.size w4 wx)
  case first =>
    by_cases hm : M3.mayE false F = 0
    · rw [hm] at h5
      clear hno
      go_wp2_with fail
      refine h5.out.mono ?_
      rintro e w5 ⟨rfl,hb5⟩
      have h6:=Lib.hid (same_callR (q3.out w5 (bt hb4 hb5)) (q1.out w5 (bt b14 hb5)))
      go_wp2_with fail
      refine h6.out.mono ?_
      rintro e w6 ⟨rfl,hb6⟩
      have hb46:=bt hb5 hb6
      go_wp2_with fail
      go_meet
      case rel => exact ⟨rfl,hb46⟩
    · have hm0 : decide (M3.mayE false F = 0) = false:=decide_eq_false hm
      have hk0:=Lib.hid (hno.out hm)
      go_wp2_with fail
      refine h5.out.mono ?_
      rintro e w5 ⟨rfl,hb5⟩
      go_wp2_with fail
      go_meet
      case rel => exact ⟨by rw [hk0.out],hb5⟩
  case rest =>
  obtain ⟨rfl,hb45⟩:=hcut
  rename ∀ (a : Act) (w : World),Code.wp _ _ _ a w → _ => hK
  refine hK _ _ ?_
  clear hK hno h5
  have hg5:=hg.below (bt b04 hb45) (Nat.le_refl _)
  have h6:=Lib.hid (hPF.out wc _ hg5 (q1.out _ (bt b14 hb45)))
  have h9:=Lib.hid (fun W (hb : Below w4.heap.size w4 W) => hPG.out W _ (hg.below (bt b04 hb) (Nat.le_refl _)) (q2.out _ (bt b24 hb)))
  have h11:=Lib.hid (fun W (hb : Below w4.heap.size w4 W) => hKF.out W _ (hg.below (bt b04 hb) (Nat.le_refl _)) (q1.out _ (bt b14 hb)))
  have h12:=Lib.hid (fun W (hb : Below w4.heap.size w4 W) => hKG.out W _ (hg.below (bt b04 hb) (Nat.le_refl _)) (q2.out _ (bt b24 hb)))
  have h13:=Lib.hid (fun W (hb : Below w4.heap.size w4 W) => same_callR (q4.out W hb) (q2.out W (bt b24 hb)))
  generalize M3.sameN AF F = sF at *
  generalize M3.sameN AG G = sG at *
  have e1 : (sF == sF) = true:=by simp
  have e2 : (sG == sG) = true:=by simp
  clear hPF hPG hKF hKG
  go_wp2_with fail
  refine h6.out.mono ?_
  rintro e w6 ⟨v6,rfl,hr6,hb6⟩
  have hb46:=bt hb45 hb6
  have h7:=Lib.hid (same_callR (shr_lt hr6) (q3.out w6 (bt hb4 hb46)))
  rw [M3.sameN_self] at h7
  obtain ⟨a6,c6,rfl⟩:=hr6.slice
  clear hr6 h6
  go_wp2_with fail
  refine h7.out.mono ?_
  rintro e w7 ⟨rfl,hb7⟩
  have hb47:=bt hb46 hb7
  have h8:=Lib.hid (h9.out _ hb47)
  clear h7 h9
  go_wp2_with fail
  refine h8.out.mono ?_
  rintro e w8 ⟨v8,rfl,hr8,hb8⟩
  have hb48:=bt hb47 hb8
  have h10:=Lib.hid (same_callR (shr_lt hr8) (q4.out w8 hb48))
  rw [M3.sameN_self] at h10
  obtain ⟨a8,c8,rfl⟩:=hr8.slice
  clear hr8 h8
  go_wp2_with fail
  refine h10.out.mono ?_
  rintro e w9 ⟨rfl,hb9⟩
  have hb49:=bt hb48 hb9
  have h11':=Lib.hid (h11.out _ hb49)
  clear h10 h11
  go_wp2_with fail
  refine h11'.out.mono ?_
  rintro e w10 ⟨rfl,hb10⟩
  have hb410:=bt hb49 hb10
  have h12':=Lib.hid (h12.out _ hb410)
  clear h11' h12
  go_wp2_with fail
  refine h12'.out.mono ?_
  rintro e w11 ⟨rfl,hb11⟩
  have hb411:=bt hb410 hb11
  have h13':=Lib.hid (h13.out _ hb411)
  clear h12' h13
  go_wp2_with fail
  refine h13'.out.mono ?_
  rintro e w12 ⟨rfl,hb12⟩
  have hb012:=bt b04 (bt hb411 hb12)
  have hLv:=Lib.hid (lives08 w12 (hg.below hb012 (Nat.le_refl _)))
  clear h13'
  go_wp2_with fail
  refine hLv.out.mono ?_
  rintro e w13 ⟨rfl,hb13⟩
  have hb013:=bt hb012 hb13
  go_wp2_with fail
  go_ret
  exact ⟨rfl,hb013⟩
end Go.Proofs.YteefodibpjgicaaGreat
