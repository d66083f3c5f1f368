/- Texts joined: Tok10, Tok11. -/
import Derived.Deep.RegionHeld3
import Derived.Test.YteefodibpjgicaaGreatA10
import Derived.Test.YteefodibpjgicaaGreatA24
import Derived.Test.YteefodibpjgicaaGreatA44
namespace Go.Proofs.YteefodibpjgicaaGreat
open Go.RowKit Kmp
def rowI (wd : List UInt8) (bk : Nat → Nat) : List Value:=(List.range (wd.length + 1)).map fun j => Value.int .i64 (bk j : Int)
theorem rowI_len (wd : List UInt8) (bk : Nat → Nat) : (rowI wd bk).length = wd.length + 1:=by simp [rowI]
theorem rowI_get (wd : List UInt8) (bk : Nat → Nat) (j : Nat) (h : j ≤ wd.length) : (rowI wd bk)[j]? = some (.int .i64 (bk j : Int)):=by
  unfold rowI
  rw [List.getElem?_map,List.getElem?_range (by omega)]
  rfl
structure FMem (wd : List UInt8) (bk : Nat → Nat) (g1 g2 ga : Nat) (w : World) : Prop where
  word : Box w g1 9 [.string (M5.bs wd)]
  slice : Box w g2 82 [.slice (some ⟨ga,0,none⟩) (wd.length + 1) (wd.length + 1)]
  row : MutRow w ga (rowI wd bk)
theorem mutRow_lt {w : World} {g : Nat} {xs : List Value} (h : MutRow w g xs) (hx : 0 < xs.length) : g < w.heap.size:=World.block_lt_of_cell? w ⟨g,0,none⟩ (h 0 hx).1
theorem mutRow_below {w w' : World} {g B : Nat} {xs : List Value} (h : MutRow w g xs) (hb : Below B w w') (hg : g < B) : MutRow w' g xs:=fun j hj => by
  obtain ⟨h1,h2⟩:=h j hj
  exact ⟨by rw [hb.cell (p:=⟨g,j,none⟩) hg]; exact h1,by rw [hb.frozen (p:=⟨g,j,none⟩) hg]; exact h2⟩
theorem FMem.below {wd : List UInt8} {bk : Nat → Nat} {g1 g2 ga : Nat} {w w' : World} (h : FMem wd bk g1 g2 ga w) (hb : Below w.heap.size w w') : FMem wd bk g1 g2 ga w' :=
  ⟨h.word.below hb h.word.lt,h.slice.below hb h.slice.lt,mutRow_below h.row hb (mutRow_lt h.row (by rw [rowI_len]; omega))⟩
theorem pre_one (s : ByteArray) (p : UInt8) (h : 0 < s.size) : M1.prefixB s.data.toList [p] = (M1.small s[0] == p):=by
  have:=drop_cons s 0 h
  rw [List.drop_zero] at this
  rw [this]
  show (decide (1 ≤ (s[0] :: s.data.toList.drop 1).length) && ([M1.small s[0]] == [p])) = _
  rw [decide_eq_true (by simp),Bool.true_and]
  show (M1.small s[0] == p && ([] : List UInt8) == []) = _
  simp
theorem one_cut (wd : List UInt8) (h : Nat) (hh : h < wd.length) : ((M5.bs wd).extract h (h + 1)).data.toList = [wd[h]]:=by
  rw [Lib.extract_data,M5.bs_data,List.drop_eq_getElem_cons hh,show h + 1 - h = 1 by omega]
  rfl
def StepPost (wd : List UInt8) (h : Nat) (c : UInt8) (w : World) (e : Ending) (w' : World) : Prop:=∃ r : Nat,Strides wd h c r ∧ e = .returned (.int .i64 (r : Int)) ∧ Below w.heap.size w w'
set_option maxHeartbeats 4000000 in
set_option maxRecDepth 100000 in
theorem tokStep (wd : List UInt8) (bk : Nat → Nat) (h M : Nat) (left : ByteArray) (w : World) (g1 g2 ga : Nat) (hm : FMem wd bk g1 g2 ga w) (hw1 : 0 < wd.length) (hw2 : wd.length ≤ 2147483648) (hh : h ≤ wd.length) (hM : h ≤ M) (ht : Tab wd bk M) (hl1 : 0 < left.size) (hl2 : left.size ≤ 1073741826) :
    Calls Tryz.prog 190 #[.int .i64 (h : Int),.string left,.pointer (some ⟨g1,0,none⟩),.pointer (some ⟨g2,0,none⟩)] w (StepPost wd h left[0] w):=by
  obtain ⟨wo,rfl⟩ : ∃ wo : World,wo = w:=⟨_,rfl⟩
  have hP:=Lib.hid (fun (k : Nat) (hk : k < wd.length) w => utfPrefix left ((M5.bs wd).extract k (k + 1)) w (by omega) (by rw [ByteArray.size_extract]; omega))
  obtain ⟨c,hc⟩ : ∃ c,Hid (c = M1.small left[0]):=⟨M1.small left[0],Lib.hid rfl⟩
  have hQ : Hid (∀ (k : Nat) (hk : k < wd.length) w,Calls Tryz.prog 191 #[.string left,.string ((M5.bs wd).extract k (k + 1))] w (fun e w' => e = .returned (.bool (c == wd[k])) ∧ Below w.heap.size w w')):=Lib.hid (fun k hk w => (hP.out k hk w).mono (by
    rintro e w' ⟨rfl,hb⟩
    rw [one_cut wd k hk,pre_one left wd[k] hl1,← hc.out]
    exact ⟨rfl,hb⟩))
  have hbz : (M5.bs wd).size = wd.length:=bs_size wd
  have hgoal : ∀ (r : Nat) (w' : World),r ≤ h + 1 → r ≤ wd.length → (∀ u,Low u → IsL wd u h → IsL wd (u ++ [c]) r) → Below wo.heap.size wo w' → StepPost wd h left[0] wo (.returned (.int .i64 (r : Int))) w':=fun r w' h1 h2 h3 hb => ⟨r,⟨h1,h2,by rw [← hc.out]; exact h3⟩,rfl,hb⟩
  replace hgoal:=Lib.hid hgoal
  generalize StepPost wd h left[0] wo = Post at *
  clear hP
  go_enter Tryz.func190,Tryz.ntmps190
  go_wp2_with fail
  go_loopw [0] (fun u0 wr => ∃ k : Nat,u0 = .int .i64 (k : Int) ∧ k ≤ h ∧ Below wo.heap.size wo wr ∧ Hid (∀ u,Low u → IsL wd u h → Cand wd u c k)) (fun u0 _ => (intOf u0).toNat)
  case atStart => exact ⟨h,rfl,Nat.le_refl _,Below.refl _ _,Lib.hid (fun u _ hl => cand_of hl)⟩
  case round =>
    obtain ⟨k,rfl,hk,hbw,hcand⟩:=hrel
    have hm1:=hm.below hbw
    have x0:=hm1.word.cell (i:=0) rfl
    have y0:=hm1.slice.cell (i:=0) rfl
    have hrow:=rowI_get wd bk k (by omega)
    obtain ⟨r0,rf0⟩:=hm1.row.at hrow
    have hback : (∀ hh : k < wd.length,wd[k] ≠ c) → 1 ≤ k → bk k < k ∧ Hid (∀ u,Low u → IsL wd u h → Cand wd u c (bk k)):=fun he h1 =>
      ⟨(ht k h1 (by omega)).1,Lib.hid (fun u hu hl => cand_miss hu ht h1 (by omega) (by omega) (hcand.out u hu hl) he)⟩
    by_cases hkn : k = wd.length
    · obtain ⟨hb1,hb2⟩:=hback (fun hh => by omega) (by omega)
      have ekn : ((k : Int) == (wd.length : Int)) = true:=by rw [beq_iff_eq]; omega
      generalize bk k = b at *
      replace hkn:=Lib.hid hkn
      clear hback hcand
      go_wp2_with fail
      go_roundw
      case rel => exact ⟨b,rfl,by omega,hbw,hb2⟩
      case measure => simp [intOf]; omega
    · have ekn : ((k : Int) == (wd.length : Int)) = false:=by rw [beq_eq_false_iff_ne]; omega
      have hlt : k < wd.length:=by omega
      have hC:=Lib.hid (fun w => hQ.out k hlt w)
      have hhit : (c == wd[k]) = true → Hid (∀ u,Low u → IsL wd u h → IsL wd (u ++ [c]) (k + 1)):=fun he => Lib.hid (fun u hu hl => cand_hit (hcand.out u hu hl) hlt (beq_iff_eq.1 he).symm)
      have hzero : (c == wd[k]) = false → k = 0 → Hid (∀ u,Low u → IsL wd u h → IsL wd (u ++ [c]) 0):=fun he h0 => by
        subst h0
        exact Lib.hid (fun u hu hl => cand_zero (hcand.out u hu hl) hlt (fun e => by rw [e,beq_self_eq_true] at he; cases he))
      have hmiss : (c == wd[k]) = false → 1 ≤ k → bk k < k ∧ Hid (∀ u,Low u → IsL wd u h → Cand wd u c (bk k)):=fun he h1 => hback (fun _ e => by rw [← e,beq_self_eq_true] at he; cases he) h1
      generalize (c == wd[k]) = hit at *
      clear hback hcand
      replace hkn:=Lib.hid hkn
      cases hit
      · by_cases hk0 : k = 0
        · have hz:=hzero rfl hk0
          subst hk0
          clear hzero hhit hmiss
          go_wp2_with fail
          refine (hC.out _).mono ?_
          rintro e1 w2 ⟨rfl,hb2⟩
          go_wp2_with fail
          exact hgoal.out 0 _ (by omega) (by omega) hz.out (bt hbw hb2)
        · obtain ⟨hb1,hb2⟩:=hmiss rfl (by omega)
          generalize bk k = b at *
          clear hzero hhit hmiss
          replace hb2:=Lib.hid hb2
          have hgt : decide ((0 : Int) < (k : Int)) = true:=decide_eq_true (by omega)
          go_wp2_with fail
          refine (hC.out _).mono ?_
          rintro e1 w2 ⟨rfl,hbq⟩
          have hm2:=hm1.below hbq
          have x0:=hm2.word.cell (i:=0) rfl
          have y0:=hm2.slice.cell (i:=0) rfl
          obtain ⟨r0,rf0⟩:=hm2.row.at hrow
          go_wp2_with fail
          go_roundw
          case rel => exact ⟨b,rfl,by omega,bt hbw hbq,hb2.out⟩
          case measure => simp [intOf]; omega
      · have hz:=hhit rfl
        clear hzero hhit hmiss
        by_cases hk0 : k = 0
        · subst hk0
          go_wp2_with fail
          refine (hC.out _).mono ?_
          rintro e1 w2 ⟨rfl,hb2⟩
          go_wp2_with fail
          exact hgoal.out 1 _ (by omega) (by omega) hz.out (bt hbw hb2)
        · have hgt : decide ((0 : Int) < (k : Int)) = true:=decide_eq_true (by omega)
          go_wp2_with fail
          refine (hC.out _).mono ?_
          rintro e1 w2 ⟨rfl,hbq⟩
          have hm2:=hm1.below hbq
          have x0:=hm2.word.cell (i:=0) rfl
          go_wp2_with fail
          refine (hC.out _).mono ?_
          rintro e1 w3 ⟨rfl,hbq3⟩
          go_wp2_with fail
          exact hgoal.out (k + 1) _ (by omega) (by omega) hz.out (bt (bt hbw hbq) hbq3)
end Go.Proofs.YteefodibpjgicaaGreat

namespace Go.Proofs.YteefodibpjgicaaGreat
open Go.RowKit Kmp
def FollowPost (wd : List UInt8) (w : World) (e : Ending) (w' : World) : Prop:=∃ (bk : Nat → Nat) (g1 g2 ga : Nat),e = .returned (.func (.func 190) #[] #[.pointer (some ⟨g1,0,none⟩),.pointer (some ⟨g2,0,none⟩)]) ∧ FMem wd bk g1 g2 ga w' ∧ Tab wd bk wd.length ∧ Below w.heap.size w w'
theorem cellB {B : Nat} {w w' : World} (hb : Below B w w') {b o : Nat} {v : Value} (h : w.cell? ⟨b,o,none⟩ = some v) (hlt : b < B) : w'.cell? ⟨b,o,none⟩ = some v:=(hb.cell (p:=⟨b,o,none⟩) hlt).trans h
def KmpI (wd : List UInt8) (ga i b : Nat) (c : UInt8) (wr : World) (f : Nat → Bool) (t : Nat → Value) (W : World) : Prop :=
  (f 13 = false → Below wr.heap.size wr W) ∧ (f 11 = true → ∃ r : Nat,t 11 = .int .i64 (r : Int) ∧ Strides wd b c r) ∧
  (f 13 = true → (∀ j,j < 13 → f j = true) ∧ ∃ (r : Nat) (W0 : World),Strides wd b c r ∧ Below wr.heap.size wr W0 ∧ W = W0.setCell ⟨ga,i + 1,none⟩ (.int .i64 (r : Int)))
section
variable {wd : List UInt8} {ga i b : Nat} {c : UInt8} {wr W : World} {f : Nat → Bool} {t : Nat → Value}
theorem KmpI.start (wd : List UInt8) (ga i b : Nat) (c : UInt8) (wr : World) (t : Nat → Value) : KmpI wd ga i b c wr (fun j => decide (14 ≤ j)) t wr.drew :=
  ⟨fun _ => (Below.refl _ wr).drew,fun h => by simp at h,fun h => by simp at h⟩
theorem KmpI.notlast (h : KmpI wd ga i b c wr f t W) {j : Nat} (hj : j < 14) (hf : f j = false) : f 13 = false:=by
  cases h13 : f 13
  · rfl
  · rcases Nat.lt_or_ge j 13 with hl | hl
    · have:=(h.2.2 h13).1 j hl
      rw [hf] at this
      cases this
    · obtain rfl : j = 13:=by omega
      rw [h13] at hf
      cases hf
theorem KmpI.same (h : KmpI wd ga i b c wr f t W) (j : Nat) (v : Value) (h1 : j ≠ 11) (h2 : j ≠ 13) : KmpI wd ga i b c wr (updF f j) (updT t j v) W:=by
  refine ⟨fun e => h.1 (by rwa [updF_ne f (Ne.symm h2)] at e),fun e => ?_,fun e => ?_⟩
  · rw [updF_ne f (Ne.symm h1)] at e
    obtain ⟨r,e1,e2⟩:=h.2.1 e
    exact ⟨r,by simpa [updT,Ne.symm h1] using e1,e2⟩
  · rw [updF_ne f (Ne.symm h2)] at e
    obtain ⟨e1,e2⟩:=h.2.2 e
    exact ⟨fun k hk => by unfold updF; split; rfl; exact e1 k hk,e2⟩
theorem KmpI.call (h : KmpI wd ga i b c wr f t W) (h13 : f 13 = false) {r : Nat} {W' : World} (hr : Strides wd b c r) (hb : Below W.heap.size W W') : KmpI wd ga i b c wr (updF f 11) (updT t 11 (.int .i64 (r : Int))) W':=by
  refine ⟨fun _ => bt (h.1 h13) hb,fun _ => ⟨r,by simp [updT],hr⟩,fun e => ?_⟩
  rw [updF_ne f (by omega),h13] at e
  cases e
theorem KmpI.put (h : KmpI wd ga i b c wr f t W) (h13 : f 13 = false) {r : Nat} (hr : Strides wd b c r) (hall : ∀ j,j < 13 → f j = true) (v : Value) : KmpI wd ga i b c wr (updF f 13) (updT t 13 v) (W.setCell ⟨ga,i + 1,none⟩ (.int .i64 (r : Int))):=by
  refine ⟨fun e => by simp at e,fun e => ?_,fun _ => ⟨fun k hk => by unfold updF; split; rfl; exact hall k hk,r,W,hr,h.1 h13,rfl⟩⟩
  rw [updF_ne f (by omega)] at e
  obtain ⟨r',e1,e2⟩:=h.2.1 e
  exact ⟨r',by simpa [updT] using e1,e2⟩
end
theorem infoInt : (Tryz.prog.info? 3).map (fun i => (i.zero,i.size,i.bytes)) = some (some (.int .i64 0),1,8):=by kernel_rfl
theorem made_row (wd : List UInt8) (bk : Nat → Nat) (h : ∀ j,bk j = 0) : (madeCells (Value.int .i64 0).cells ((wd.length + 1) * 1)).toList = rowI wd bk:=by
  unfold madeCells rowI
  rw [Array.toList_map,Array.toList_range,Nat.mul_one]
  refine List.map_congr_left (fun j _ => ?_)
  rw [h j]
  show #[Value.int .i64 0][j % 1]! = _
  rw [Nat.mod_one]
  rfl
theorem mutRow_own {w : World} {base g n cap : Nat} {e : TypeId} {xs : List Value} (h : w.ownsRow base e 1 (.slice (some ⟨g,0,none⟩) n cap) n xs) (hx : xs.length = n) : MutRow w g xs:=fun j hj => by
  refine ⟨?_,h.frozenAt j⟩
  rw [h.cellAt j (by omega)]
  exact List.getElem?_eq_getElem hj
theorem rowI_set (wd : List UInt8) (bk : Nat → Nat) (i r : Nat) : (rowI wd bk).set i (.int .i64 (r : Int)) = rowI wd (fun j => if j = i then r else bk j):=by
  apply List.ext_getElem?
  intro j
  unfold rowI
  rw [List.getElem?_set,List.getElem?_map,List.getElem?_map,List.length_map,List.length_range]
  by_cases hj : j < wd.length + 1
  · rw [List.getElem?_range hj]
    by_cases e : i = j
    · subst e
      simp [hj]
    · simp [e,Ne.symm e]
  · rw [List.getElem?_eq_none (by simp; omega)]
    simp
    omega
set_option maxHeartbeats 4000000 in
set_option maxRecDepth 100000 in
theorem tokFollow (wd : List UInt8) (w : World) (hw1 : 0 < wd.length) (hw2 : wd.length ≤ 1073741826) : Calls Tryz.prog 179 #[.string (M5.bs wd)] w (FollowPost wd w):=by
  obtain ⟨wo,rfl⟩ : ∃ wo : World,wo = w:=⟨_,rfl⟩
  have hbz : (M5.bs wd).size = wd.length:=bs_size wd
  have hE : ∀ (args : Array Value) (w : World),(callFunc 190 args).run Tryz.prog w = .ok (.enter 190 args) w:=enters_of Tryz.func190 (by kernel_rfl) rfl
  go_enter Tryz.func179,Tryz.ntmps179
  obtain ⟨i0,hi,hz0,hz1,hz2⟩:=info_parts infoInt
  have bw0:=Box.new wo 9 [.string (M5.bs wd)]
  have hb0:=Lib.hid ((Below.refl _ wo).alloc (Nat.le_refl _) (.cells #[.string (M5.bs wd)] 9))
  go_wp2_with (at_make; refine wpList_make_full _ rfl _ _ 82 rfl (wo.heap.size + 1) 3 i0 (.int .i64 0) 1 Tryz.underlying82 hi hz0 hz1 .i64 .i64 _ _ (wd.length + 1) rfl rfl (by omega) (by omega) (by rw [hz2]; omega) (by unfold maxLen; omega) (by simp) ?_; intro w1 hown1 hgrow1)
  have hz : (wo.alloc (.cells #[.string (M5.bs wd)] 9)).heap.size = wo.heap.size + 1:=by simp
  rw [hz] at hown1
  have hr1:=mutRow_own hown1 (by rw [made_row wd (fun _ => 0) (fun _ => rfl),rowI_len])
  rw [made_row wd (fun _ => 0) (fun _ => rfl)] at hr1
  have bw1:=bw0.keep (hgrow1.block _ bw0.lt (by simp))
  have hb1:=hb0.out.grown hgrow1 hb0.out.size (fun k hk => by cases hk)
  have hgs : wo.heap.size + 1 < w1.heap.size:=mutRow_lt hr1 (by rw [rowI_len]; omega)
  obtain ⟨g1,hg1⟩ : ∃ g,g = wo.heap.size:=⟨_,rfl⟩
  obtain ⟨ga,hga⟩ : ∃ g,g = wo.heap.size + 1:=⟨_,rfl⟩
  obtain ⟨g2,hg2⟩ : ∃ g,g = w1.heap.size:=⟨_,rfl⟩
  have hm0 : FMem wd (fun _ => 0) g1 g2 ga (w1.alloc (.cells #[.slice (some ⟨ga,0,none⟩) (wd.length + 1) (wd.length + 1)] 82)):=by
    rw [hg1,hg2,hga]
    exact ⟨bw1.alloc _,Box.new w1 82 [.slice (some ⟨wo.heap.size + 1,0,none⟩) (wd.length + 1) (wd.length + 1)],fun j hj => by
      obtain ⟨h1,h2⟩:=hr1 j hj
      have hb:=(Below.refl w1.heap.size w1).alloc (Nat.le_refl _) (.cells #[.slice (some ⟨wo.heap.size + 1,0,none⟩) (wd.length + 1) (wd.length + 1)] 82)
      exact ⟨by rw [hb.cell (p:=⟨wo.heap.size + 1,j,none⟩) hgs]; exact h1,by rw [hb.frozen (p:=⟨wo.heap.size + 1,j,none⟩) hgs]; exact h2⟩⟩
  have hb2:=hb1.alloc hb1.size (.cells #[.slice (some ⟨ga,0,none⟩) (wd.length + 1) (wd.length + 1)] 82)
  have hne1 : g1 ≠ ga:=by omega
  have hne2 : g2 ≠ ga:=by omega
  have hga2 : wo.heap.size ≤ ga:=by omega
  rw [← hga,← hg1,← hg2]
  clear hg1 hga hg2 hgs hr1 bw1 bw0 hb0 hb1 hown1 hgrow1 hz hi hz0 hz1 hz2
  go_loopw [5] (fun u5 wr => ∃ (i : Nat) (bk : Nat → Nat),u5 = .int .i64 (i : Int) ∧ 1 ≤ i ∧ i ≤ wd.length ∧ FMem wd bk g1 g2 ga wr ∧ Hid (Tab wd bk i) ∧ Below wo.heap.size wo wr) (fun u5 _ => wd.length - (intOf u5).toNat)
  case atStart => exact ⟨1,fun _ => 0,rfl,Nat.le_refl _,hw1,hm0,Lib.hid (tab_one wd _ rfl),hb2⟩
  case round =>
    obtain ⟨i,bk,rfl,hi1,hin,hm,ht,hbw⟩:=hrel
    have x0:=hm.word.cell (i:=0) rfl
    have y0:=hm.slice.cell (i:=0) rfl
    by_cases hlt : i < wd.length
    · have hlti : decide ((i : Int) < (wd.length : Int)) = true:=decide_eq_true (by omega)
      have hrow:=rowI_get wd bk i (by omega)
      obtain ⟨r0,rf0⟩:=hm.row.at hrow
      have hx : ((M5.bs wd).extract i wd.length).size = wd.length - i:=by rw [ByteArray.size_extract,hbz]; omega
      have hc0 : ∀ h : 0 < ((M5.bs wd).extract i wd.length).size,((M5.bs wd).extract i wd.length)[0] = wd[i]:=fun h => by
        have h1:=drop_cons ((M5.bs wd).extract i wd.length) 0 h
        rw [List.drop_zero,Lib.extract_data,M5.bs_data,List.take_of_length_le (by rw [List.length_drop]; exact Nat.le_refl _),List.drop_eq_getElem_cons hlt] at h1
        exact (List.cons.inj h1).1.symm
      have hbki : bk i < i:=(ht.out i hi1 (Nat.le_refl _)).1
      have hS : Hid (∀ w',FMem wd bk g1 g2 ga w' → Calls Tryz.prog 190 #[.int .i64 (bk i : Int),.string ((M5.bs wd).extract i wd.length),.pointer (some ⟨g1,0,none⟩),.pointer (some ⟨g2,0,none⟩)] w' (StepPost wd (bk i) wd[i] w')):=Lib.hid (fun w' h => by
        have h0 : 0 < ((M5.bs wd).extract i wd.length).size:=by omega
        have:=tokStep wd bk (bk i) i ((M5.bs wd).extract i wd.length) w' g1 g2 ga h hw1 (by omega) (by omega) (by omega) ht.out h0 (by omega)
        rw [hc0 h0] at this
        exact this)
      generalize hbk : bk i = b at *
      replace hbk:=Lib.hid hbk
      clear hc0
      have hwrap : IntKind.i64.wrap ((i : Int) + 1) = (i : Int) + 1:=IntWalk.i64_in _ ⟨by omega,by omega⟩
      have hgl : ga < wr.heap.size:=mutRow_lt hm.row (by rw [rowI_len]; omega)
      have c1 : (0 : Int) ≤ (i : Int):=by omega
      have c2 : (i : Int) ≤ (wd.length : Int):=by omega
      have c3 : (i : Int) < (wd.length : Int) + 1:=by omega
      have c4 : (0 : Int) ≤ (i : Int) + 1:=by omega
      have c5 : (i : Int) + 1 < (wd.length : Int) + 1:=by omega
      go_wp2_with fail
      refine wp_region_known (n:=14) ([some (.slice (some ⟨ga,0,none⟩) (wd.length + 1) (wd.length + 1)),some (Value.int IntKind.i64 (i : Int)),some (.int .i64 ((i : Int) + 1)),some (Value.func (Fn.func 190) #[] #[Value.pointer (some ⟨g1,0,none⟩),Value.pointer (some ⟨g2,0,none⟩)]),some (.slice (some ⟨ga,0,none⟩) (wd.length + 1) (wd.length + 1)),some (Value.int IntKind.i64 (i : Int)),some (.pointer (some ⟨ga,i,none⟩)),some (.int .i64 (b : Int)),some (.string (M5.bs wd)),some (Value.int IntKind.i64 (i : Int)),some (.string ((M5.bs wd).extract i wd.length)),none,some (.pointer (some ⟨ga,i + 1,none⟩)),none] : List (Option Value)) (fun t => ⟨#[Value.string (M5.bs wd),Value.pointer (some ⟨g1,0,none⟩),Value.nilFunc,Value.pointer (some ⟨g2,0,none⟩),Value.func (Fn.func 190) #[] #[Value.pointer (some ⟨g1,0,none⟩),Value.pointer (some ⟨g2,0,none⟩)],Value.int IntKind.i64 (i : Int),Value.string (M5.bs wd),Value.int IntKind.i64 (wd.length : Int),Value.int IntKind.i64 ((wd.length : Int) + 1),Value.slice (some ⟨ga,0,none⟩) (wd.length + 1) (wd.length + 1),Value.func (Fn.func 190) #[] #[Value.pointer (some ⟨g1,0,none⟩),Value.pointer (some ⟨g2,0,none⟩)],Value.int IntKind.i64 (i : Int),Value.string (M5.bs wd),Value.int IntKind.i64 (wd.length : Int),Value.bool true,u15,u16,t 0,t 1,t 2,t 3,t 4,t 5,t 6,t 7,t 8,t 9,t 10,t 11,t 12,undef],[]⟩) (fun f t W => KmpI wd ga i b wd[i] wr f t W) (fun j => match j with | 0 => u17 | 1 => u18 | 2 => u19 | 3 => u20 | 4 => u21 | 5 => u22 | 6 => u23 | 7 => u24 | 8 => u25 | 9 => u26 | 10 => u27 | 11 => u28 | 12 => u29 | _ => undef) (by kernel_rfl) (by rfl) (by rfl) (by kernel_rfl) rfl ?i0 ?step ?fin
      case i0 =>
        exact KmpI.start _ _ _ _ _ _ _
      case step =>
        intro j0 hj0 f t W hfi hwt hk2 hI
        have h13:=hI.notlast hj0 hfi
        have hlow:=hI.1 h13
        have s0:=cellB hlow x0 hm.word.lt
        have s1:=cellB hlow y0 hm.slice.lt
        have s2:=cellB hlow r0 hgl
        have s3:=Lib.hid (hm.below hlow)
        clear hlow h13
        obtain rfl | rfl | rfl | rfl | rfl | rfl | rfl | rfl | rfl | rfl | rfl | rfl | rfl | rfl : j0 = 0 ∨ j0 = 1 ∨ j0 = 2 ∨ j0 = 3 ∨ j0 = 4 ∨ j0 = 5 ∨ j0 = 6 ∨ j0 = 7 ∨ j0 = 8 ∨ j0 = 9 ∨ j0 = 10 ∨ j0 = 11 ∨ j0 = 12 ∨ j0 = 13:=by omega
        · -- operation 0
          replace hI:=Lib.hid hI
          replace hI:=Lib.hid hI
          replace hk2:=Lib.hid hk2
          clear hwt
          refine wpOp_step rfl (fun K hK => ?_)
          go_simp
          exact hK _ _ ⟨_,by simp [updT],hk2.out.at_ rfl,hI.out.same _ _ (by decide) (by decide)⟩
        · -- operation 1
          replace hI:=Lib.hid hI
          replace hI:=Lib.hid hI
          replace hk2:=Lib.hid hk2
          clear hwt
          refine wpOp_step rfl (fun K hK => ?_)
          go_simp
          exact hK _ _ ⟨_,by simp [updT],hk2.out.at_ rfl,hI.out.same _ _ (by decide) (by decide)⟩
        · -- operation 2
          have e1 : t 1 = Value.int IntKind.i64 (i : Int):=hk2 1 _ (hwt 1 (by kernel_rfl)) rfl
          replace hI:=Lib.hid hI
          replace hI:=Lib.hid hI
          replace hk2:=Lib.hid hk2
          clear hwt
          refine wpOp_step rfl (fun K hK => ?_)
          go_simp
          exact hK _ _ ⟨_,by simp [updT,e1],hk2.out.at_ rfl,hI.out.same _ _ (by decide) (by decide)⟩
        · -- operation 3
          replace hI:=Lib.hid hI
          replace hI:=Lib.hid hI
          replace hk2:=Lib.hid hk2
          clear hwt
          refine wpOp_step rfl (fun K hK => ?_)
          go_simp
          exact hK _ _ ⟨_,by simp [updT],hk2.out.at_ rfl,hI.out.same _ _ (by decide) (by decide)⟩
        · -- operation 4
          replace hI:=Lib.hid hI
          replace hI:=Lib.hid hI
          replace hk2:=Lib.hid hk2
          clear hwt
          refine wpOp_step rfl (fun K hK => ?_)
          go_simp
          exact hK _ _ ⟨_,by simp [updT],hk2.out.at_ rfl,hI.out.same _ _ (by decide) (by decide)⟩
        · -- operation 5
          replace hI:=Lib.hid hI
          replace hI:=Lib.hid hI
          replace hk2:=Lib.hid hk2
          clear hwt
          refine wpOp_step rfl (fun K hK => ?_)
          go_simp
          exact hK _ _ ⟨_,by simp [updT],hk2.out.at_ rfl,hI.out.same _ _ (by decide) (by decide)⟩
        · -- operation 6
          have e4 : t 4 = .slice (some ⟨ga,0,none⟩) (wd.length + 1) (wd.length + 1):=hk2 4 _ (hwt 4 (by kernel_rfl)) rfl
          have e5 : t 5 = Value.int IntKind.i64 (i : Int):=hk2 5 _ (hwt 5 (by kernel_rfl)) rfl
          replace hI:=Lib.hid hI
          replace hI:=Lib.hid hI
          replace hk2:=Lib.hid hk2
          clear hwt
          refine wpOp_step rfl (fun K hK => ?_)
          go_simp
          exact hK _ _ ⟨_,by simp [updT,e4,e5],hk2.out.at_ rfl,hI.out.same _ _ (by decide) (by decide)⟩
        · -- operation 7
          have e6 : t 6 = .pointer (some ⟨ga,i,none⟩):=hk2 6 _ (hwt 6 (by kernel_rfl)) rfl
          replace hI:=Lib.hid hI
          replace hI:=Lib.hid hI
          replace hk2:=Lib.hid hk2
          clear hwt
          refine wpOp_step rfl (fun K hK => ?_)
          go_simp
          exact hK _ _ ⟨_,by simp [updT,e6],hk2.out.at_ rfl,hI.out.same _ _ (by decide) (by decide)⟩
        · -- operation 8
          replace hI:=Lib.hid hI
          replace hI:=Lib.hid hI
          replace hk2:=Lib.hid hk2
          clear hwt
          refine wpOp_step rfl (fun K hK => ?_)
          go_simp
          exact hK _ _ ⟨_,by simp [updT],hk2.out.at_ rfl,hI.out.same _ _ (by decide) (by decide)⟩
        · -- operation 9
          replace hI:=Lib.hid hI
          replace hI:=Lib.hid hI
          replace hk2:=Lib.hid hk2
          clear hwt
          refine wpOp_step rfl (fun K hK => ?_)
          go_simp
          exact hK _ _ ⟨_,by simp [updT],hk2.out.at_ rfl,hI.out.same _ _ (by decide) (by decide)⟩
        · -- operation 10
          have e8 : t 8 = .string (M5.bs wd):=hk2 8 _ (hwt 8 (by kernel_rfl)) rfl
          have e9 : t 9 = Value.int IntKind.i64 (i : Int):=hk2 9 _ (hwt 9 (by kernel_rfl)) rfl
          replace hI:=Lib.hid hI
          replace hI:=Lib.hid hI
          replace hk2:=Lib.hid hk2
          clear hwt
          refine wpOp_step rfl (fun K hK => ?_)
          go_simp
          exact hK _ _ ⟨_,by simp [updT,e8,e9],hk2.out.at_ rfl,hI.out.same _ _ (by decide) (by decide)⟩
        · -- operation 11
          have e3 : t 3 = Value.func (Fn.func 190) #[] #[Value.pointer (some ⟨g1,0,none⟩),Value.pointer (some ⟨g2,0,none⟩)]:=hk2 3 _ (hwt 3 (by kernel_rfl)) rfl
          have e7 : t 7 = .int .i64 (b : Int):=hk2 7 _ (hwt 7 (by kernel_rfl)) rfl
          have e10 : t 10 = .string ((M5.bs wd).extract i wd.length):=hk2 10 _ (hwt 10 (by kernel_rfl)) rfl
          have hC:=Lib.hid (hS.out W s3.out)
          have h13:=hI.notlast hj0 hfi
          replace hk2:=Lib.hid hk2
          replace hI:=Lib.hid hI
          clear hwt
          refine wpOp_step rfl (fun K hK => ?_)
          go_simp
          refine hC.out.mono ?_
          rintro e w5 ⟨r,hr,rfl,hb5⟩
          exact hK _ _ ⟨_,by simp [updT,e3,e7,e10],hk2.out.free rfl,hI.out.call h13 hr hb5⟩
        · -- operation 12
          have e0 : t 0 = .slice (some ⟨ga,0,none⟩) (wd.length + 1) (wd.length + 1):=hk2 0 _ (hwt 0 (by kernel_rfl)) rfl
          have e2 : t 2 = .int .i64 ((i : Int) + 1):=hk2 2 _ (hwt 2 (by kernel_rfl)) rfl
          replace hI:=Lib.hid hI
          replace hI:=Lib.hid hI
          replace hk2:=Lib.hid hk2
          clear hwt
          refine wpOp_step rfl (fun K hK => ?_)
          go_simp
          exact hK _ _ ⟨_,by simp [updT,e0,e2],hk2.out.at_ rfl,hI.out.same _ _ (by decide) (by decide)⟩
        · -- operation 13
          have e12 : t 12 = .pointer (some ⟨ga,i + 1,none⟩):=hk2 12 _ (hwt 12 (by kernel_rfl)) rfl
          obtain ⟨r,e11,hr⟩:=hI.2.1 (hwt 11 (by kernel_rfl))
          obtain ⟨q0,qf0⟩:=s3.out.row.at (rowI_get wd bk (i + 1) (by omega))
          have hput:=hI.put hfi hr (fun j hj => by
            rcases (by omega : j = 0 ∨ j = 1 ∨ j = 2 ∨ j = 3 ∨ j = 4 ∨ j = 5 ∨ j = 6 ∨ j = 7 ∨ j = 8 ∨ j = 9 ∨ j = 10 ∨ j = 11 ∨ j = 12) with rfl | rfl | rfl | rfl | rfl | rfl | rfl | rfl | rfl | rfl | rfl | rfl | rfl <;> exact hwt _ (by kernel_rfl)) undef
          replace hput:=Lib.hid hput
          replace hk2:=Lib.hid hk2
          replace hI:=Lib.hid hI
          clear hwt
          refine wpOp_step rfl (fun K hK => ?_)
          go_simp
          exact hK _ _ ⟨undef,by simp [updT,e11,e12],hk2.out.free rfl,hput.out⟩
      case fin =>
        intro f t W hall hk2 hI
        obtain ⟨_,r,W0,hr,hb0,rfl⟩:=hI.2.2 (hall 13 (by omega))
        clear hk2 hall hI
        have hm2:=hm.below hb0
        have hrow2:=hm2.row.set (k:=i + 1) (by rw [rowI_len]; omega) (.int .i64 (r : Int))
        rw [rowI_set] at hrow2
        have hbF : Below wo.heap.size wo (W0.setCell ⟨ga,i + 1,none⟩ (.int .i64 (r : Int))):=(bt hbw hb0).setCell (p:=⟨ga,i + 1,none⟩) hga2 _
        have hmF : FMem wd (fun j => if j = i + 1 then r else bk j) g1 g2 ga (W0.setCell ⟨ga,i + 1,none⟩ (.int .i64 (r : Int))):=⟨hm2.word.far hne1 _,hm2.slice.far hne2 _,hrow2⟩
        have htF:=Lib.hid (tab_next hi1 hlt ht.out r (by rw [hbk.out]; exact hr))
        replace hmF:=Lib.hid hmF
        go_wp2_with fail
        refine ⟨⟨_,_,_,_,_,_,_,_,_,_,_,_,_,_,_,_,_,_,_,_,?rel,rfl⟩,?measure⟩
        case rel => exact ⟨i + 1,fun j => if j = i + 1 then r else bk j,by go_num,by omega,by omega,hmF.out,htF,hbF⟩
        case measure => exact rf_meas hlt
    · obtain rfl : i = wd.length:=by omega
      go_wp2_with fail
      go_ret
      exact ⟨bk,g1,g2,ga,rfl,hm,ht.out,hbw⟩
end Go.Proofs.YteefodibpjgicaaGreat
