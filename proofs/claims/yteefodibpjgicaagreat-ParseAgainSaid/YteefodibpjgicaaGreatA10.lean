/- Texts joined: Ref05b, Ref05e, Kmp, Math5f, Math5s, Math5t. -/
import Derived.Test.YteefodibpjgicaaGreatA3
import Derived.Test.YteefodibpjgicaaGreatA9
namespace Go.Proofs.YteefodibpjgicaaGreat
open Go.RowKit
def UptoPost (p : List UInt8 × List UInt8) (n : Nat) (w : World) (e : Ending) (w' : World) : Prop:=e = .returned (.tuple #[.string (M5.bs p.1),.int .i64 ((n - p.2.length : Nat) : Int)]) ∧ w = w'
theorem uptoPost_mk {l x : List UInt8} {k : Nat} {p : List UInt8 × List UInt8} {w w' : World} {e : Ending} {t : ByteArray} (hp : p = (x,l.drop k)) (hk : k ≤ l.length) (he : e = .returned (.tuple #[.string t,.int .i64 (k : Int)])) (ht : t = M5.bs x) (hb : w = w') : UptoPost p l.length w e w':=by
  subst hp he ht
  refine ⟨?_,hb⟩
  rw [show (l.drop k).length = l.length - k from List.length_drop,show l.length - (l.length - k) = k by omega]
theorem bs_cut (s : ByteArray) (a b : Nat) : s.extract a b = M5.bs ((s.data.toList.drop a).take (b - a)):=by
  apply ByteArray.ext
  apply Array.ext'
  rw [Lib.extract_data,M5.bs_data]
theorem find_fits (wd l : List UInt8) (hw : 0 < wd.length) (h : M5.findL wd l < l.length) : M5.findL wd l + wd.length ≤ l.length:=by
  induction l with
  | nil => simp at h
  | cons c r ih =>
    by_cases he : (c :: r).take wd.length = wd
    · by_cases hl : wd.length ≤ (c :: r).length
      · rw [find_yes _ _ he hw hl]; omega
      · rw [find_short _ _ (by omega)] at h; omega
    · rw [find_no _ _ _ he] at h ⊢
      simp only [List.length_cons] at h ⊢
      have:=ih (by omega)
      omega
set_option maxHeartbeats 2000000 in
set_option maxRecDepth 100000 in
theorem ref05upto (s wd : ByteArray) (at_ : Nat) (w : World) (hs : s.size ≤ 1073741824) (hw1 : 0 < wd.size) (hw2 : wd.size ≤ 1073741824) (ha : at_ ≤ s.size) :
    Calls Tryz.prog 87 #[.string s,.int .i64 (at_ : Int),.string wd] w (UptoPost (M5.uptoR wd.data.toList (s.data.toList.drop at_)) s.data.toList.length w):=by
  have hwl : wd.data.toList.length = wd.size:=rfl
  have hsl : s.data.toList.length = s.size:=rfl
  have hdl : (s.data.toList.drop at_).length = s.size - at_:=List.length_drop
  obtain ⟨E,hE⟩ : ∃ E,Hid (E = at_ + M5.findL wd.data.toList (s.data.toList.drop at_)):=⟨_,rfl⟩
  have hEs : E ≤ s.size:=by rw [hE.out]; have:=M5.findL_le wd.data.toList (s.data.toList.drop at_); omega
  have hEa : at_ ≤ E:=by rw [hE.out]; omega
  have hf:=Lib.hid (fun w => ref05find s wd at_ w hs hw1 hw2 ha)
  by_cases hlt : E < s.size
  · have hlt' : M5.findL wd.data.toList (s.data.toList.drop at_) < (s.data.toList.drop at_).length:=by have:=hE.out; omega
    have hfit : E + wd.size ≤ s.size:=by have:=find_fits _ _ (by omega) hlt'; have:=hE.out; omega
    have hp : Hid (M5.uptoR wd.data.toList (s.data.toList.drop at_) = ((s.data.toList.drop at_).take (E - at_),s.data.toList.drop (E + wd.size))):=by
      show _ = _
      rw [M5.uptoR,if_pos hlt',List.drop_drop,show M5.findL wd.data.toList (s.data.toList.drop at_) = E - at_ by have:=hE.out; omega,hwl]
      congr 2
      omega
    replace hlt':=Lib.hid hlt'
    replace hdl:=Lib.hid hdl
    replace hsl:=Lib.hid hsl
    go_enter Tryz.func87,Tryz.ntmps87
    go_wp2_with (go_at_call 88; refine (hf.out _).mono ?_; rintro e1 w1 ⟨rfl,rfl⟩; rw [← hE.out])
    go_ret2
    exact uptoPost_mk hp.out hfit rfl (bs_cut s at_ E) rfl
  · have hEE : E = s.size:=by omega
    have hp : Hid (M5.uptoR wd.data.toList (s.data.toList.drop at_) = (s.data.toList.drop at_,s.data.toList.drop s.size)):=by
      show _ = _
      rw [M5.uptoR,if_neg (by have:=hE.out; omega),drop_end s s.size (Nat.le_refl _)]
    replace hdl:=Lib.hid hdl
    replace hsl:=Lib.hid hsl
    go_enter Tryz.func87,Tryz.ntmps87
    go_wp2_with (go_at_call 88; refine (hf.out _).mono ?_; rintro e1 w1 ⟨rfl,rfl⟩; rw [← hE.out])
    go_ret2
    exact uptoPost_mk hp.out (Nat.le_refl _) rfl (by rw [bs_cut,List.take_of_length_le (by rw [hdl.out]; exact Nat.le_refl _)]) rfl
end Go.Proofs.YteefodibpjgicaaGreat

namespace Go.Proofs.YteefodibpjgicaaGreat
open Go.RowKit
def endV : Option Nat → Int
  | some k => (k : Int)
  | none => -1
def EndsPost (o : Option Nat) (w : World) (e : Ending) (w' : World) : Prop:=e = .returned (.int .i64 (endV o)) ∧ Below w.heap.size w w'
def edgeB (d : UInt8) : Bool:=M5.blankB d || d == 47 || d == 62
theorem ends_step (wd : List UInt8) (s : ByteArray) (i n : Nat) (hn : wd.length = n) (h : i + n < s.size) : M5.endsL wd (s.data.toList.drop i) = if (M1.fold ((s.data.toList.drop i).take n) == wd && edgeB s[i + n]) then some 0 else (M5.endsL wd (s.data.toList.drop (i + 1))).map (· + 1):=by
  subst hn
  have hd : (s.data.toList.drop i).drop wd.length = s[i + wd.length] :: s.data.toList.drop (i + wd.length + 1):=by
    rw [List.drop_drop]; exact drop_cons s _ h
  rw [drop_cons s i (by omega)] at hd ⊢
  rw [M5.endsL,hd]
  rfl
theorem ends_short (wd l : List UInt8) (h : l.length ≤ wd.length) : M5.endsL wd l = none:=by
  induction l with
  | nil => rfl
  | cons c r ih =>
    rw [M5.endsL,List.drop_of_length_le h,ih (by simp only [List.length_cons] at h; omega)]
    simp
set_option maxHeartbeats 2000000 in
set_option maxRecDepth 100000 in
theorem ref05Ends (s nm : ByteArray) (w : World) (hs : s.size ≤ 1073741824) (hn : nm.size ≤ 1073741824) :
    Calls Tryz.prog 69 #[.string s,.string nm] w (EndsPost (M5.endsL ([60,47] ++ nm.data.toList) s.data.toList) w):=by
  obtain ⟨wd,hwd⟩ : ∃ wd : List UInt8,wd = [60,47] ++ nm.data.toList:=⟨_,rfl⟩
  have hwl : wd.length = 2 + nm.size:=by rw [hwd,List.length_append]; show 2 + nm.size = _; rfl
  obtain ⟨R,h0⟩ : ∃ R,Hid (R = (M5.endsL wd (s.data.toList.drop 0)).map (· + 0)):=⟨(M5.endsL wd (s.data.toList.drop 0)).map (· + 0),Lib.hid rfl⟩
  rw [← hwd,show M5.endsL wd s.data.toList = R by rw [h0.out]; simp]
  have hW : Hid (((⟨#[60,47]⟩ : ByteArray) ++ nm).toList = wd):=by show _ = _; rw [Lib.toList_data,ByteArray.data_append,Array.toList_append,hwd]
  replace hwd:=Lib.hid hwd
  have hadd : ¬ 9223372036854775807 < 2 + nm.size:=by omega
  obtain ⟨wo,rfl⟩ : ∃ wo : World,wo = w:=⟨_,rfl⟩
  go_enter Tryz.func69,Tryz.ntmps69
  go_wp2_with fail
  obtain ⟨n,hnn⟩ : ∃ n,n = 2 + nm.size:=⟨_,rfl⟩
  rw [show (2 : Int) + (nm.size : Int) = ((n : Nat) : Int) by omega]
  have hwn : wd.length = n:=by omega
  have hnb : n ≤ 1073741826:=by omega
  clear hwl
  replace hnn:=Lib.hid hnn
  go_loopw [6] (fun u6 wr => Below wo.heap.size wo wr ∧ ∃ i : Nat,i ≤ s.size ∧ u6 = .int .i64 (i : Int) ∧ Hid (R = (M5.endsL wd (s.data.toList.drop i)).map (· + i))) (fun u6 _ => s.size - (intOf u6).toNat)
  case atStart => exact ⟨Below.refl _ _,0,(by omega),rfl,h0⟩
  case round =>
    obtain ⟨hbl,i,hi,rfl,hv⟩:=hrel
    by_cases hlt : i + n < s.size
    · have hil : i < s.size:=by omega
      have hstep:=ends_step wd s i n (by omega) (by omega)
      have hx : (s.extract i (i + n)).data.toList = (s.data.toList.drop i).take n:=by rw [Lib.extract_data,Nat.add_sub_cancel_left]
      have hxs : (s.extract i (i + n)).size ≤ 1073741824:=by rw [ByteArray.size_extract]; omega
      have hF:=Lib.hid (fun w => ref01Fold (s.extract i (i + n)) w hxs)
      rw [← hx] at hstep
      replace hx:=Lib.hid hx
      obtain ⟨G,hG⟩ : ∃ G,G = M1.fold (s.extract i (i + n)).data.toList:=⟨_,rfl⟩
      rw [← hG] at hstep
      replace hG:=Lib.hid hG
      replace hstep:=Lib.hid hstep
      go_wp2_with fail
      replace hstep:=hstep.out
      refine (hF.out _).mono ?_
      rintro e1 w1 ⟨rfl,hb1⟩
      rw [← hG.out]
      have hBl:=Lib.hid (fun w => ref05blank s[i + n] w)
      by_cases hg : G = wd
      · have hcmp : (G == ((⟨#[60,47]⟩ : ByteArray) ++ nm).toList) = true:=by rw [hW.out,hg]; simp
        rw [show (G == wd) = true by rw [hg]; simp,Bool.true_and] at hstep
        replace hg:=Lib.hid hg
        replace hstep:=Lib.hid hstep
        go_wp2_with fail
        replace hstep:=hstep.out
        refine (hBl.out _).mono ?_
        rintro e2 w2 ⟨rfl,rfl⟩
        have e47 : ((s[i + n].toNat : Int) == 47) = (s[i + n] == 47):=(eqI _ 47).symm
        have e62 : ((s[i + n].toNat : Int) == 62) = (s[i + n] == 62):=(eqI _ 62).symm
        have hyes : edgeB s[i + n] = true → R = some i:=fun hed => by rw [hv.out,hstep,hed,if_pos rfl]; exact congrArg some (Nat.zero_add i)
        have hnot : edgeB s[i + n] = false → R = (M5.endsL wd (s.data.toList.drop (i + 1))).map (· + (i + 1)):=fun hed => by
          rw [hv.out,hstep,hed,if_neg (by simp),Option.map_map]
          congr 1; funext k; show k + 1 + i = k + (i + 1); omega
        replace hstep:=Lib.hid hstep
        rw [edgeB] at hyes hnot
        rcases Bool.eq_false_or_eq_true (M5.blankB s[i + n]) with hb | hb
        · rw [hb]
          replace hyes:=Lib.hid (hyes (by rw [hb]; rfl))
          clear hnot e47 e62
          go_wp2_with fail
          go_ret
          exact ⟨by rw [hyes.out]; rfl,bt hbl hb1⟩
        · rw [hb] at hyes hnot ⊢
          rcases Bool.eq_false_or_eq_true (s[i + n] == 47) with h4 | h4
          · rw [h4] at hyes e47
            replace hyes:=Lib.hid (hyes rfl)
            clear hnot e62
            replace h4:=Lib.hid h4
            go_wp2_with fail
            go_ret
            exact ⟨by rw [hyes.out]; rfl,bt hbl hb1⟩
          · rw [h4] at hyes hnot e47
            rcases Bool.eq_false_or_eq_true (s[i + n] == 62) with h6 | h6
            · rw [h6] at hyes e62
              replace hyes:=Lib.hid (hyes rfl)
              clear hnot
              replace h4:=Lib.hid h4
              replace h6:=Lib.hid h6
              go_wp2_with fail
              go_ret
              exact ⟨by rw [hyes.out]; rfl,bt hbl hb1⟩
            · rw [h6] at hnot e62
              replace hnot:=Lib.hid (hnot rfl)
              clear hyes
              replace h4:=Lib.hid h4
              replace h6:=Lib.hid h6
              go_wp2_with fail
              go_round
              case rel => exact ⟨bt hbl hb1,i + 1,by omega,by go_num,hnot⟩
              case measure => exact rf_meas hil
      · have hcmp : (G == ((⟨#[60,47]⟩ : ByteArray) ++ nm).toList) = false:=by rw [hW.out,beq_eq_false_iff_ne]; exact hg
        have hv2 : Hid (R = (M5.endsL wd (s.data.toList.drop (i + 1))).map (· + (i + 1))):=by
          show _ = _
          rw [hv.out,hstep,show (G == wd) = false by rw [beq_eq_false_iff_ne]; exact hg,Bool.false_and,if_neg (by simp),Option.map_map]
          congr 1; funext k; show k + 1 + i = k + (i + 1); omega
        replace hg:=Lib.hid hg
        replace hstep:=Lib.hid hstep
        go_wp2_with fail
        go_round
        case rel => exact ⟨bt hbl hb1,i + 1,by omega,by go_num,hv2⟩
        case measure => exact rf_meas hil
    · have hno : R = none:=by
        rw [hv.out,ends_short wd _ (by rw [List.length_drop]; show s.size - i ≤ _; omega)]; rfl
      replace hno:=Lib.hid hno
      go_wp2_with fail
      go_ret
      exact ⟨by rw [hno.out]; rfl,hbl⟩
end Go.Proofs.YteefodibpjgicaaGreat

namespace Go.Proofs.YteefodibpjgicaaGreat.Kmp
def Low (u : List UInt8) : Prop:=∀ x ∈ u,M1.small x = x
def IsL (wd u : List UInt8) (h : Nat) : Prop:=h ≤ wd.length ∧ wd.take h <:+ u ∧ ∀ k,k ≤ wd.length → wd.take k <:+ u → k ≤ h
def MB (wd : List UInt8) (j b : Nat) : Prop:=b < j ∧ wd.take b <:+ wd.take j ∧ ∀ k,k < j → wd.take k <:+ wd.take j → k ≤ b
def Tab (wd : List UInt8) (bk : Nat → Nat) (M : Nat) : Prop:=∀ j,1 ≤ j → j ≤ M → bk j < j ∧ (Low (wd.take j) → MB wd j (bk j))
def Cand (wd u : List UInt8) (c : UInt8) (h : Nat) : Prop:=wd.take h <:+ u ∧ ∀ k,k ≤ wd.length → wd.take k <:+ u ++ [c] → k ≤ h + 1
theorem suf_snoc {a u : List UInt8} {x c : UInt8} (h : a ++ [x] <:+ u ++ [c]) : a <:+ u ∧ x = c:=by
  obtain ⟨t,ht⟩:=h
  rw [← List.append_assoc] at ht
  have:=List.append_inj' ht rfl
  exact ⟨⟨t,this.1⟩,by simpa using this.2⟩
theorem take_snoc (wd : List UInt8) (k : Nat) (h : k < wd.length) : wd.take (k + 1) = wd.take k ++ [wd[k]]:=List.take_succ_eq_append_getElem h
theorem cand_of {wd u : List UInt8} {c : UInt8} {h : Nat} (hl : IsL wd u h) : Cand wd u c h:=by
  refine ⟨hl.2.1,fun k hk hs => ?_⟩
  cases k with
  | zero => omega
  | succ k =>
    rw [take_snoc wd k (by omega)] at hs
    have:=hl.2.2 k (by omega) (suf_snoc hs).1
    omega
theorem cand_hit {wd u : List UInt8} {c : UInt8} {h : Nat} (hc : Cand wd u c h) (hh : h < wd.length) (he : wd[h] = c) : IsL wd (u ++ [c]) (h + 1):=by
  refine ⟨hh,?_,hc.2⟩
  rw [take_snoc wd h hh,he]
  obtain ⟨t,ht⟩:=hc.1
  exact ⟨t,by rw [← List.append_assoc,ht]⟩
theorem cand_zero {wd u : List UInt8} {c : UInt8} (hc : Cand wd u c 0) (hh : 0 < wd.length) (he : wd[0] ≠ c) : IsL wd (u ++ [c]) 0:=by
  refine ⟨Nat.zero_le _,⟨u ++ [c],by simp⟩,fun k hk hs => ?_⟩
  have h1:=hc.2 k hk hs
  rcases Nat.lt_or_ge 0 k with h | h
  · obtain rfl : k = 1:=by omega
    rw [take_snoc wd 0 hh] at hs
    exact absurd (suf_snoc hs).2 he
  · exact h
theorem low_suf {a u : List UInt8} (h : a <:+ u) (hu : Low u) : Low a:=fun x hx => hu x (h.subset hx)
theorem cand_miss {wd u : List UInt8} {c : UInt8} {h M : Nat} {bk : Nat → Nat} (hu : Low u) (ht : Tab wd bk M) (h1 : 1 ≤ h) (hM : h ≤ M) (hn : h ≤ wd.length) (hc : Cand wd u c h) (he : ∀ hh : h < wd.length,wd[h] ≠ c) : Cand wd u c (bk h):=by
  obtain ⟨hb1,hb2⟩:=ht h h1 hM
  obtain ⟨m1,m2,m3⟩:=hb2 (low_suf hc.1 hu)
  refine ⟨m2.trans hc.1,fun k hk hs => ?_⟩
  have h2:=hc.2 k hk hs
  cases k with
  | zero => omega
  | succ k =>
    rw [take_snoc wd k (by omega)] at hs
    obtain ⟨s1,s2⟩:=suf_snoc hs
    by_cases hkh : k = h
    · subst hkh
      exact absurd s2 (he (by omega))
    · have hlt : k < h:=by omega
      have:=m3 k hlt (List.suffix_of_suffix_length_le s1 hc.1 (by rw [List.length_take,List.length_take]; omega))
      omega
def Strides (wd : List UInt8) (h : Nat) (c : UInt8) (r : Nat) : Prop:=r ≤ h + 1 ∧ r ≤ wd.length ∧ ∀ u,Low u → IsL wd u h → IsL wd (u ++ [M1.small c]) r
theorem isL_nil (wd : List UInt8) : IsL wd [] 0:=by
  refine ⟨Nat.zero_le _,⟨[],by simp⟩,fun k hk hs => ?_⟩
  have:=hs.length_le
  rw [List.length_take,List.length_nil] at this
  omega
theorem tab_one (wd : List UInt8) (bk : Nat → Nat) (h : bk 1 = 0) : Tab wd bk 1:=by
  intro j h1 h2
  obtain rfl : j = 1:=by omega
  rw [h]
  refine ⟨by omega,fun _ => ⟨by omega,⟨wd.take 1,by simp⟩,fun k hk _ => by omega⟩⟩
theorem isL_mb {wd : List UInt8} {i b : Nat} (h1 : 1 ≤ i) (hi : i ≤ wd.length) (h : MB wd i b) : IsL wd ((wd.take i).drop 1) b:=by
  have hlen : (wd.take i).length = i:=by rw [List.length_take]; omega
  refine ⟨by have:=h.1; omega,?_,fun k hk hs => ?_⟩
  · refine List.suffix_of_suffix_length_le h.2.1 (List.drop_suffix 1 _) ?_
    rw [List.length_drop,hlen,List.length_take]
    have:=h.1
    omega
  · have hl:=hs.length_le
    rw [List.length_drop,hlen,List.length_take] at hl
    exact h.2.2 k (by omega) (hs.trans (List.drop_suffix 1 _))
theorem mb_isL {wd : List UInt8} {i b : Nat} (h1 : 1 ≤ i) (hi : i ≤ wd.length) (h : IsL wd ((wd.take i).drop 1) b) : MB wd i b:=by
  have hlen : (wd.take i).length = i:=by rw [List.length_take]; omega
  have hl:=h.2.1.length_le
  rw [List.length_drop,hlen,List.length_take] at hl
  have hb:=h.1
  refine ⟨by omega,h.2.1.trans (List.drop_suffix 1 _),fun k hk hs => ?_⟩
  refine h.2.2 k (by omega) (List.suffix_of_suffix_length_le hs (List.drop_suffix 1 _) ?_)
  rw [List.length_drop,hlen,List.length_take]
  omega
theorem tab_next {wd : List UInt8} {bk : Nat → Nat} {i : Nat} (h1 : 1 ≤ i) (hi : i < wd.length) (ht : Tab wd bk i) (r : Nat) (hr : Strides wd (bk i) wd[i] r) :
    Tab wd (fun j => if j = i + 1 then r else bk j) (i + 1):=by
  intro j j1 j2
  obtain ⟨t1,t2⟩:=ht i h1 (Nat.le_refl _)
  by_cases hj : j = i + 1
  · subst hj
    simp only [if_true]
    refine ⟨by have:=hr.1; omega,fun hlow => ?_⟩
    have hlow1 : Low (wd.take i):=fun x hx => hlow x (by rw [take_snoc wd i hi]; exact List.mem_append_left _ hx)
    have hsm : M1.small wd[i] = wd[i]:=hlow _ (by rw [take_snoc wd i hi]; exact List.mem_append_right _ (List.mem_singleton_self _))
    have hL:=hr.2.2 _ (low_suf (List.drop_suffix 1 _) hlow1) (isL_mb h1 (by omega) (t2 hlow1))
    refine mb_isL (by omega) (by omega) ?_
    rw [hsm] at hL
    have e : (wd.take (i + 1)).drop 1 = (wd.take i).drop 1 ++ [wd[i]]:=by
      rw [take_snoc wd i hi,List.drop_append_of_le_length (by rw [List.length_take]; omega)]
    rw [e]
    exact hL
  · simp only [if_neg hj]
    exact ht j j1 (by omega)
def Hit (wd l : List UInt8) (j : Nat) : Prop:=M1.fold ((l.drop j).take wd.length) = wd ∧ ∃ h : j + wd.length < l.length,edgeB l[j + wd.length] = true
theorem ends_cons (wd : List UInt8) (c : UInt8) (r : List UInt8) : (Hit wd (c :: r) 0 → M5.endsL wd (c :: r) = some 0) ∧ (¬ Hit wd (c :: r) 0 → M5.endsL wd (c :: r) = (M5.endsL wd r).map (· + 1)):=by
  rw [M5.endsL]
  constructor
  · rintro ⟨h1,h2,h3⟩
    rw [Nat.zero_add] at h2
    have e : (c :: r).drop wd.length = (c :: r)[wd.length] :: (c :: r).drop (wd.length + 1):=List.drop_eq_getElem_cons h2
    rw [List.drop_zero] at h1
    rw [e,h1]
    have h3' : edgeB (c :: r)[wd.length] = true:=by simpa using h3
    rw [if_pos]
    rw [beq_self_eq_true,Bool.true_and]
    exact h3'
  · intro h
    rw [if_neg]
    intro h'
    apply h
    rw [Bool.and_eq_true] at h'
    obtain ⟨h1,h2⟩:=h'
    refine ⟨by rw [List.drop_zero]; exact beq_iff_eq.1 h1,?_⟩
    by_cases hl : wd.length < (c :: r).length
    · refine ⟨by rw [Nat.zero_add]; exact hl,?_⟩
      have e : (c :: r).drop wd.length = (c :: r)[wd.length] :: (c :: r).drop (wd.length + 1):=List.drop_eq_getElem_cons hl
      rw [e] at h2
      have h2' : edgeB (c :: r)[wd.length] = true:=h2
      simpa using h2'
    · rw [List.drop_of_length_le (by omega)] at h2
      cases h2
theorem hit_cons (wd : List UInt8) (c : UInt8) (r : List UInt8) (j : Nat) : Hit wd (c :: r) (j + 1) ↔ Hit wd r j:=by
  unfold Hit
  rw [List.drop_succ_cons]
  constructor
  · rintro ⟨h1,h2,h3⟩
    have h2' : j + wd.length < r.length:=by simp only [List.length_cons] at h2; omega
    refine ⟨h1,h2',?_⟩
    have e : (c :: r)[j + 1 + wd.length] = r[j + wd.length]:=by
      rw [List.getElem_cons]
      rw [dif_neg (by omega)]
      congr 1
      omega
    rw [← e]
    exact h3
  · rintro ⟨h1,h2,h3⟩
    have h2' : j + 1 + wd.length < (c :: r).length:=by simp only [List.length_cons]; omega
    refine ⟨h1,h2',?_⟩
    have e : (c :: r)[j + 1 + wd.length] = r[j + wd.length]:=by
      rw [List.getElem_cons]
      rw [dif_neg (by omega)]
      congr 1
      omega
    rw [e]
    exact h3
theorem ends_some (wd : List UInt8) : ∀ (l : List UInt8) (j : Nat),Hit wd l j → (∀ k,k < j → ¬ Hit wd l k) → M5.endsL wd l = some j:=by
  intro l
  induction l with
  | nil => intro j h; obtain ⟨_,h2,_⟩:=h; simp at h2
  | cons c r ih =>
    intro j h hn
    cases j with
    | zero => exact (ends_cons wd c r).1 h
    | succ j =>
      rw [(ends_cons wd c r).2 (hn 0 (by omega)),ih j ((hit_cons wd c r j).1 h) (fun k hk h' => hn (k + 1) (by omega) ((hit_cons wd c r k).2 h'))]
      rfl
theorem ends_none (wd : List UInt8) : ∀ (l : List UInt8),(∀ k,¬ Hit wd l k) → M5.endsL wd l = none:=by
  intro l
  induction l with
  | nil => intro _; rfl
  | cons c r ih =>
    intro hn
    rw [(ends_cons wd c r).2 (hn 0),ih (fun k h' => hn (k + 1) ((hit_cons wd c r k).2 h'))]
    rfl
theorem hit_iff {wd l : List UInt8} {i h : Nat} (hi : i < l.length) (hL : IsL wd (M1.fold (l.take i)) h) (hw : wd.length ≤ i) : Hit wd l (i - wd.length) ↔ (h = wd.length ∧ edgeB l[i] = true):=by
  have hfl : M1.fold (l.take i) = M1.fold (l.take (i - wd.length)) ++ M1.fold ((l.drop (i - wd.length)).take wd.length):=by
    unfold M1.fold
    rw [← List.map_append]
    congr 1
    have : l.take i = l.take ((i - wd.length) + wd.length):=by rw [Nat.sub_add_cancel hw]
    rw [this,List.take_add]
  have hx : M1.fold ((l.drop (i - wd.length)).take wd.length) = wd ↔ h = wd.length:=by
    constructor
    · intro e
      have:=hL.2.2 wd.length (Nat.le_refl _) (by rw [List.take_length,hfl,e]; exact ⟨_,rfl⟩)
      have:=hL.1
      omega
    · intro e
      subst e
      have h2:=hL.2.1
      rw [List.take_length,hfl] at h2
      have hlen : (M1.fold ((l.drop (i - wd.length)).take wd.length)).length = wd.length:=by
        unfold M1.fold
        rw [List.length_map,List.length_take,List.length_drop]
        omega
      obtain ⟨t,ht⟩:=h2
      exact (List.append_inj' ht (by rw [hlen])).2.symm
  unfold Hit
  rw [hx]
  constructor
  · rintro ⟨h1,h2,h3⟩
    refine ⟨h1,?_⟩
    simpa [Nat.sub_add_cancel hw] using h3
  · rintro ⟨h1,h3⟩
    exact ⟨h1,by omega,by simpa [Nat.sub_add_cancel hw] using h3⟩
theorem fold_snoc (l : List UInt8) (i : Nat) (h : i < l.length) : M1.fold (l.take (i + 1)) = M1.fold (l.take i) ++ [M1.small l[i]]:=by
  unfold M1.fold
  rw [List.take_succ_eq_append_getElem h,List.map_append]
  rfl
theorem low_fold (l : List UInt8) : Low (M1.fold l):=by
  intro x hx
  unfold M1.fold at hx
  obtain ⟨y,_,rfl⟩:=List.mem_map.1 hx
  exact M1.small_small y
end Go.Proofs.YteefodibpjgicaaGreat.Kmp

namespace Go.Proofs.YteefodibpjgicaaGreat.M5
def keepT (t : Tok) : List Tok:=if t.kind ≠ 0 then [t] else []
theorem endN_le (nm l : List UInt8) : endN nm l ≤ l.length:=by
  unfold endN
  cases h : endsL ([60,47] ++ nm) l with
  | none => exact Nat.le_refl _
  | some k =>
    show k ≤ l.length
    generalize [60,47] ++ nm = wd at h
    induction l generalizing k with
    | nil => cases h
    | cons c r ih =>
      by_cases h0 : Kmp.Hit wd (c :: r) 0
      · rw [(Kmp.ends_cons wd c r).1 h0] at h
        cases h
        exact Nat.zero_le _
      · rw [(Kmp.ends_cons wd c r).2 h0] at h
        cases hr : endsL wd r with
        | none => rw [hr] at h; cases h
        | some j =>
          rw [hr] at h
          have:=ih j hr
          have h' : j + 1 = k:=by simpa using h
          simp only [List.length_cons]
          omega
theorem rawT_raw (t : Tok) (l : List UInt8) (h : t.kind = 1 ∧ M3.rawB t.name.data.toList = true) :
    rawT t l = (keepT (contC (endN t.name.data.toList l) l),l.drop (endN t.name.data.toList l)):=by
  rw [rawT,if_pos h]
  congr 1
  have hle:=endN_le t.name.data.toList l
  generalize endN t.name.data.toList l = n at *
  unfold contC keepT asIs
  by_cases hz : n = 0
  · subst hz
    rw [if_pos rfl]
    rfl
  · rw [if_neg hz,if_neg,if_pos (show (3 : Int) ≠ 0 by decide)]
    rw [Bool.not_eq_true,List.isEmpty_eq_false_iff]
    intro e
    have:=congrArg List.length e
    rw [List.length_take,List.length_nil] at this
    omega
theorem rawT_not (t : Tok) (l : List UInt8) (h : ¬ (t.kind = 1 ∧ M3.rawB t.name.data.toList = true)) : rawT t l = ([],l):=by rw [rawT,if_neg h]
theorem round_raw (l : List UInt8) (h : startsB l = true) (hr : (tagR l).1.kind = 1 ∧ M3.rawB (tagR l).1.name.data.toList = true) :
    toksR [] l = keepT (tagR l).1 ++ (keepT (contC (endN (tagR l).1.name.data.toList (tagR l).2) (tagR l).2) ++ toksR [] ((tagR l).2.drop (endN (tagR l).1.name.data.toList (tagR l).2))):=by
  rw [toks_tag l h,rawT_raw _ _ hr]
  rfl
theorem round_tag (l : List UInt8) (h : startsB l = true) (hr : ¬ ((tagR l).1.kind = 1 ∧ M3.rawB (tagR l).1.name.data.toList = true)) :
    toksR [] l = keepT (tagR l).1 ++ toksR [] (tagR l).2:=by
  rw [toks_tag l h,rawT_not _ _ hr,List.nil_append]
  rfl
end Go.Proofs.YteefodibpjgicaaGreat.M5

namespace Go.Proofs.YteefodibpjgicaaGreat.M5
open M1 (isB)
def R (l : List UInt8) : Prop:=isB l = true
end Go.Proofs.YteefodibpjgicaaGreat.M5

namespace Go.Proofs.YteefodibpjgicaaGreat.M5
end Go.Proofs.YteefodibpjgicaaGreat.M5
