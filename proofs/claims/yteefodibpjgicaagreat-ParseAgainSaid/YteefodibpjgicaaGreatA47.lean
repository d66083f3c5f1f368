/- Texts joined: Tok14. -/
import Derived.Test.YteefodibpjgicaaGreatA46
namespace Go.Proofs.YteefodibpjgicaaGreat
open Go.RowKit
def ToksPost (l : List Tok) (w : World) (e : Ending) (w' : World) : Prop:=∃ v,e = .returned v ∧ Toks w' w.heap.size v l ∧ Below w.heap.size w w'
theorem AddKept.below {g0 g1 B : Nat} {v : Value} {l : List Tok} {wo w w' : World} (h : AddKept g0 g1 v w w') (hb : Below wo.heap.size wo w) (h0 : wo.heap.size ≤ g0) (h1 : wo.heap.size ≤ g1) (hB : wo.heap.size ≤ B) (hl : Toks w B v l) : Below wo.heap.size wo w' :=
  ⟨h.os.trans hb.os,h.tape.trans hb.tape,h.output.trans hb.output,Nat.le_trans hb.size h.size,fun k hk => by
    have hz:=hb.size
    rw [h.block k (by omega) (by omega) (by omega) (fun e => by have:=(hl.lt e).1; omega)]
    exact hb.block k hk⟩
theorem Toks.base {w : World} {B B' : Nat} {v : Value} {l : List Tok} (h : Toks w B v l) (hb : B' ≤ B) : Toks w B' v l:=by
  obtain ⟨xs,h1,h2⟩:=h
  exact ⟨xs,own_le h1 hb,RepT.mono (fun b hb' => ⟨by omega,hb'.2.1,hb'.2.2⟩) _ _ h2⟩
theorem own_new {w w0 : World} {B n : Nat} {v va : Value} {l : List Tok} {xs : List Value} (h : w.ownsRow w0.heap.size 43 2 va n xs) (hl : Toks w0 B v l) (hB : B ≤ w0.heap.size) : Row (fun b => B ≤ b ∧ b < w.heap.size ∧ v.ownBlock ≠ some b) w 2 va n xs :=
  Row.own h (fun g hg => by
    have h1:=h.lt g hg
    exact ⟨by omega,h1.2,fun e => by have:=(hl.lt e).2; omega⟩)
theorem keepT_len (t : Tok) : (M5.keepT t).length ≤ 1:=by unfold M5.keepT; split <;> simp
theorem bs_cut0 (R : List UInt8) (n : Nat) : (M5.bs R).extract n (M5.bs R).size = M5.bs (R.drop n):=by rw [bs_size,bs_drop]
theorem fold_len (l : List UInt8) : (M1.fold l).length = l.length:=by unfold M1.fold; rw [List.length_map]
theorem begin_name_le (l : List UInt8) : (M5.beginR l).1.name.size ≤ l.length:=by
  unfold M5.beginR
  split
  · show (M5.bs (M1.fold ((l.drop 1).takeWhile M5.nameB))).size ≤ _
    rw [bs_size,fold_len]
    have h1:=(List.takeWhile_prefix (l:=l.drop 1) M5.nameB).length_le
    have h2 : (l.drop 1).length = l.length - 1:=List.length_drop
    omega
  · exact Nat.zero_le _
theorem tag_name_le (l : List UInt8) : (M5.tagR l).1.name.size ≤ l.length:=by
  unfold M5.tagR
  split
  · split
    · rename_i c d r _
      split
      · exact begin_name_le _
      · split
        · exact Nat.zero_le _
        · split
          · exact Nat.zero_le _
          · split
            · split
              · show (M5.bs (M1.fold (r.takeWhile M5.nameB))).size ≤ _
                rw [bs_size,fold_len]
                have h1:=(List.takeWhile_prefix (l:=r) M5.nameB).length_le
                simp only [List.length_cons]
                omega
              · exact Nat.zero_le _
            · exact Nat.zero_le _
    · exact Nat.zero_le _
  · exact Nat.zero_le _
set_option maxHeartbeats 8000000 in
set_option maxRecDepth 100000 in
theorem tokTokens (s : ByteArray) (w : World) (hg : Glo w) (hs : s.size ≤ 1073741824) : Calls Tryz.prog 156 #[.string s] w (ToksPost (M5.tokens s.data.toList) w):=by
  obtain ⟨wo,rfl⟩ : ∃ wo : World,wo = w:=⟨_,rfl⟩
  have hE : ∀ (args : Array Value) (w : World),(callFunc 157 args).run Tryz.prog w = .ok (.enter 157 args) w:=enters_of Tryz.func157 (by kernel_rfl) rfl
  obtain ⟨T,hT⟩ : ∃ T,Hid (T = M5.tokens s.data.toList):=⟨_,rfl⟩
  rw [← hT.out]
  have bs0:=(Box.new wo 9 [.string s]).alloc (.cells #[.slice none 0 0] 61)
  have bo0:=Box.new (wo.alloc (.cells #[.string s] 9)) 61 [.slice none 0 0]
  have hb0:=((Below.refl _ wo).alloc (Nat.le_refl _) (.cells #[.string s] 9)).alloc (by simp) (.cells #[.slice none 0 0] 61)
  have hz0 : (wo.alloc (.cells #[.string s] 9)).heap.size = wo.heap.size + 1:=by simp
  rw [hz0] at bo0
  go_enter Tryz.func156,Tryz.ntmps156
  go_wp2_with fail
  go_loopw [] (fun wr => ∃ (R : List UInt8) (acc : List Tok) (v : Value),Box wr wo.heap.size 9 [.string (M5.bs R)] ∧ Box wr (wo.heap.size + 1) 61 [v] ∧ Toks wr (wo.heap.size + 2) v acc ∧ Below wo.heap.size wo wr ∧ wo.heap.size + 2 ≤ wr.heap.size ∧ acc.length + R.length ≤ s.size ∧ Hid (T = acc ++ M5.toksR [] R)) (fun wr => strLen ((wr.cell? ⟨wo.heap.size,0,none⟩).getD undef))
  case atStart => exact ⟨s.data.toList,[],.slice none 0 0,by rw [M5.bs_of]; exact bs0,bo0,Toks.nil _ _,hb0,by simp,by show 0 + s.size ≤ s.size; omega,by show _ = _; rw [hT.out,M5.tokens_eq,List.nil_append]⟩
  case round =>
    obtain ⟨R,acc,v,bs1,bo1,hl,hbw,hws,hal,hv⟩:=hrel
    have hRz : (M5.bs R).size = R.length:=bs_size R
    have x0:=bs1.cell (i:=0) rfl
    have x1:=bo1.cell (i:=0) rfl
    have hmeas : ∀ (w' : World) (R' : List UInt8),Box w' wo.heap.size 9 [.string (M5.bs R')] → R'.length < R.length → strLen ((w'.cell? ⟨wo.heap.size,0,none⟩).getD undef) < strLen ((wr.cell? ⟨wo.heap.size,0,none⟩).getD undef):=fun w' R' hb hlt => by
      rw [hb.cell (i:=0) rfl,x0]
      show (M5.bs R').size < (M5.bs R).size
      rw [bs_size,hRz]
      exact hlt
    replace hmeas:=Lib.hid hmeas
    by_cases hR : R = []
    · have hem : (M5.bs R).toList.isEmpty = true:=isEmpty_yes _ (by rw [hRz,hR]; rfl)
      have hne : (!(M5.bs R).toList.isEmpty) = false:=by rw [hem]; rfl
      have hTe : T = acc:=by rw [hv.out,hR,M5.toksR_nil]; simp [M5.charsT]
      replace hR:=Lib.hid hR
      replace hTe:=Lib.hid hTe
      go_wp2_with fail
      go_ret
      exact ⟨v,rfl,by rw [hTe.out]; exact hl.base (by omega),hbw⟩
    · have hRp : 0 < R.length:=List.length_pos_iff.2 hR
      have hem : (M5.bs R).toList.isEmpty = false:=isEmpty_no _ (by omega)
      have hne : (!(M5.bs R).toList.isEmpty) = true:=by rw [hem]; rfl
      have hTag:=Lib.hid (tokTag (M5.bs R) wr (hg.below hbw (Nat.le_refl _)) (by omega))
      rw [M5.bs_data,hRz] at hTag
      replace hR:=Lib.hid hR
      go_wp2_with fail
      refine hTag.out.mono ?_
      rintro e1 w2 ⟨va,rfl,hown,hb2⟩
      have bs2:=bs1.below hb2 bs1.lt
      have bo2:=bo1.below hb2 bo1.lt
      have hl2:=hl.below hb2
      have hbw2:=Lib.hid (bt hbw hb2)
      have hws2 : wo.heap.size + 2 ≤ w2.heap.size:=Nat.le_trans hws hb2.size
      have hlr:=hl
      have hwsr:=hws
      clear x0 x1 bs1 bo1 hl hbw hws hb2
      cases hsB : M5.startsB R
      · have htg : M5.tagR R = (M5.zero,R.drop 0):=tag_no R hsB
        have hn0 : R.length - (M5.tagR R).2.length = 0:=by rw [htg]; show R.length - (R.drop 0).length = 0; rw [List.drop_zero]; omega
        clear hTag htg
        generalize (M5.tagR R).1 = t0 at *
        rw [hn0]
        clear hn0
        obtain ⟨a0,c0,rfl⟩:=own_slice5 hown
        have hCh:=Lib.hid (fun w => tokChars (M5.bs R) w (by omega))
        rw [M5.bs_data] at hCh
        have hstep:=Lib.hid (M5.toks_step R hR.out hsB)
        have hpos:=M5.plain_pos R hR.out hsB
        have hple:=M5.plainN_le R
        obtain ⟨N,hN⟩ : ∃ N,N = M5.plainN R:=⟨_,rfl⟩
        rw [← hN] at hCh hstep hpos hple
        obtain ⟨t,ht⟩ : ∃ t,t = M5.charsC R:=⟨_,rfl⟩
        rw [← ht] at hCh
        have hk1 : (t.kind == 1) = false:=by rw [ht]; rfl
        have hstep2 : Hid (M5.toksR [] R = M5.keepT t ++ M5.toksR [] (R.drop N)):=by
          show _ = _
          rw [hstep.out,ht]
          unfold M5.charsC
          rw [← hN]
          rfl
        replace ht:=Lib.hid ht
        replace hN:=Lib.hid hN
        clear hstep hown
        have bt3:=Box.new w2 87 [.int .i64 t0.kind,.string t0.name,.slice a0 t0.attrs.length c0,.string t0.text]
        have hb3:=(Below.refl w2.heap.size w2).alloc (Nat.le_refl _) (.cells #[.int .i64 t0.kind,.string t0.name,.slice a0 t0.attrs.length c0,.string t0.text] 87)
        have y0:=(bs2.alloc (.cells #[.int .i64 t0.kind,.string t0.name,.slice a0 t0.attrs.length c0,.string t0.text] 87)).cell (i:=0) rfl
        replace hb3:=Lib.hid hb3
        go_wp2_with fail
        refine (hCh.out _).mono ?_
        rintro e1 w4 ⟨vb,rfl,hown4,hb4⟩
        have bt4:=bt3.below hb4 bt3.lt
        have hb24:=bt hb3.out hb4
        have z0:=bt4.cell (i:=0) rfl
        have z1:=bt4.cell (i:=1) rfl
        have z2:=bt4.cell (i:=2) rfl
        have z3:=bt4.cell (i:=3) rfl
        have fz:=bt4.free
        obtain ⟨a4,c4,rfl⟩:=own_slice5 hown4
        have bt5:=Lib.hid (bt4.four (.int .i64 t.kind) (.string t.name) (.slice a4 t.attrs.length c4) (.string t.text))
        have hb25:=Lib.hid (four_below hb24 (g:=w2.heap.size) (.int .i64 t.kind) (.string t.name) (.slice a4 t.attrs.length c4) (.string t.text) (Nat.le_refl _))
        have hown5:=Lib.hid (own_four (g:=w2.heap.size) hown4 (by simp) (.int .i64 t.kind) (.string t.name) (.slice a4 t.attrs.length c4) (.string t.text))
        clear hb4 hb24 hown4 y0 bt3
        go_upto_region 7 with fail
        generalize ((((w4.setCell ⟨w2.heap.size,0,none⟩ (.int .i64 t.kind)).setCell ⟨w2.heap.size,1,none⟩ (.string t.name)).setCell ⟨w2.heap.size,2,none⟩ (.slice a4 t.attrs.length c4)).setCell ⟨w2.heap.size,3,none⟩ (.string t.text)) = w5 at *
        clear bt4 z0 z1 z2 z3 fz
        have u0:=bt5.out.cell (i:=0) rfl
        have u1:=bt5.out.cell (i:=1) rfl
        have u2:=bt5.out.cell (i:=2) rfl
        have u3:=bt5.out.cell (i:=3) rfl
        have hz5:=hb25.out.size
        have hadd:=Lib.hid (tokAdd t N (M5.bs R) acc v (.slice a4 t.attrs.length c4) wo.heap.size (wo.heap.size + 1) (wo.heap.size + 2) w5 (bs2.below hb25.out bs2.lt) (bo2.below hb25.out bo2.lt) (by omega) (by omega) (by omega) (by omega) (hl2.below hb25.out) (by omega) (by omega) (own_new (own_le hown5.out (by simp)) hl2 hws2))
        go_wp2_with fail
        refine hadd.out.mono ?_
        rintro e1 w6 ⟨rfl,v6,bo6,bs6,hl6,hk6⟩
        have hvt : v.ownBlock ≠ some w2.heap.size:=fun e => by have:=(hl2.lt e).2; omega
        have bt6:=bt5.out.keep (hk6.block _ bt5.out.lt (by omega) (by omega) hvt)
        rw [bs_cut0] at bs6
        have hb26:=Lib.hid (hk6.below (bt hbw2.out hb25.out) (Nat.le_refl _) (by omega) (by omega) (hl2.below hb25.out))
        have u0:=bt6.cell (i:=0) rfl
        have u1:=bt6.cell (i:=1) rfl
        go_wp2_with fail
        go_roundw
        case rel => exact ⟨R.drop N,acc ++ M5.keepT t,v6,bs6,bo6,hl6,hb26.out,by have:=hk6.size; omega,by have:=keepT_len t; rw [List.length_append,List.length_drop]; omega,by show _ = _; rw [hv.out,hstep2.out,List.append_assoc]⟩
        case measure => exact hmeas.out _ _ bs6 (by rw [List.length_drop]; omega)
      · have htl:=M5.tag_lt R hsB
        have hat:=(M5.tag_suf R).at_
        have hle:=(M5.tag_suf R).le
        have hnm:=tag_name_le R
        obtain ⟨N,hN⟩ : ∃ N,Hid (N = R.length - (M5.tagR R).2.length):=⟨_,rfl⟩
        rw [← hN.out] at hat ⊢
        have hNp : 0 < N:=by rw [hN.out]; omega
        have hNle : N ≤ R.length:=by rw [hN.out]; omega
        have hraw:=M5.round_raw R hsB
        have htag:=M5.round_tag R hsB
        rw [← hat] at hraw htag
        have hrl : (R.drop N).length = R.length - N:=List.length_drop
        clear hTag htl hat hle
        generalize (M5.tagR R).1 = t at *
        obtain ⟨a0,c0,rfl⟩:=own_slice5 hown
        have bt3:=Box.new w2 87 [.int .i64 t.kind,.string t.name,.slice a0 t.attrs.length c0,.string t.text]
        have hb3:=(Below.refl w2.heap.size w2).alloc (Nat.le_refl _) (.cells #[.int .i64 t.kind,.string t.name,.slice a0 t.attrs.length c0,.string t.text] 87)
        have hown3:=hown.alloc (.cells #[.int .i64 t.kind,.string t.name,.slice a0 t.attrs.length c0,.string t.text] 87)
        have hNz : ((N : Int) == 0) = false:=by rw [beq_eq_false_iff_ne]; omega
        replace hb3:=Lib.hid hb3
        replace hown3:=Lib.hid hown3
        replace hraw:=Lib.hid hraw
        replace htag:=Lib.hid htag
        replace hN:=Lib.hid hN
        clear hown
        go_upto_region 7 with fail
        have hz3 : w2.heap.size < (w2.alloc (.cells #[.int .i64 t.kind,.string t.name,.slice a0 t.attrs.length c0,.string t.text] 87)).heap.size:=bt3.lt
        generalize w2.alloc (.cells #[.int .i64 t.kind,.string t.name,.slice a0 t.attrs.length c0,.string t.text] 87) = w3 at *
        have u0:=bt3.cell (i:=0) rfl
        have u1:=bt3.cell (i:=1) rfl
        have u2:=bt3.cell (i:=2) rfl
        have u3:=bt3.cell (i:=3) rfl
        have hl3:=hl2.below hb3.out
        have hadd:=Lib.hid (tokAdd t N (M5.bs R) acc v (.slice a0 t.attrs.length c0) wo.heap.size (wo.heap.size + 1) (wo.heap.size + 2) w3 (bs2.below hb3.out bs2.lt) (bo2.below hb3.out bo2.lt) (by omega) (by omega) (by omega) (by omega) hl3 (by omega) (by omega) (own_new hown3.out hlr hwsr))
        go_wp2_with fail
        refine hadd.out.mono ?_
        rintro e1 w6 ⟨rfl,v6,bo6,bs6,hl6,hk6⟩
        have hvt : v.ownBlock ≠ some w2.heap.size:=fun e => by have:=(hl2.lt e).2; omega
        have bt6:=bt3.keep (hk6.block _ bt3.lt (by omega) (by omega) hvt)
        rw [bs_cut0] at bs6
        have hb26:=Lib.hid (hk6.below (bt hbw2.out hb3.out) (Nat.le_refl _) (by omega) (by omega) hl3)
        have u0:=bt6.cell (i:=0) rfl
        have u1:=bt6.cell (i:=1) rfl
        have hz6:=hk6.size
        have hlen6 : (acc ++ M5.keepT t).length + (R.drop N).length ≤ s.size:=by have:=keepT_len t; rw [List.length_append,hrl]; omega
        by_cases hk1 : t.kind = 1
        · have ek : (t.kind == 1) = true:=beq_iff_eq.2 hk1
          have hRaw:=Lib.hid (fun w => domRaw t.name w)
          replace hk1:=Lib.hid hk1
          cases hrw : M3.rawB t.name.data.toList
          · have hst:=htag.out (fun h => by rw [hrw] at h; cases h.2)
            replace hst:=Lib.hid hst
            replace hrw:=Lib.hid hrw
            go_wp2_with fail
            refine (hRaw.out _).mono ?_
            rintro e1 w7 ⟨rfl,rfl⟩
            rw [hrw.out]
            go_wp2_with fail
            go_roundw
            case rel => exact ⟨R.drop N,acc ++ M5.keepT t,v6,bs6,bo6,hl6,hb26.out,by omega,hlen6,by show _ = _; rw [hv.out,hst.out,List.append_assoc]⟩
            case measure => exact hmeas.out _ _ bs6 (by omega)
          · have hst:=hraw.out ⟨hk1.out,hrw⟩
            have hnms : t.name.size ≤ 1073741824:=by omega
            have hC:=Lib.hid (fun w => tokContent (M5.bs (R.drop N)) t.name w (by rw [bs_size]; omega) hnms)
            rw [M5.bs_data] at hC
            have hEle:=M5.endN_le t.name.data.toList (R.drop N)
            generalize M5.endN t.name.data.toList (R.drop N) = E at *
            have hctl : (M5.keepT (M5.contC E (R.drop N))).length ≤ E:=by
              have h1:=keepT_len (M5.contC E (R.drop N))
              by_cases hE0 : E = 0
              · subst hE0
                exact Nat.le_refl _
              · omega
            generalize M5.contC E (R.drop N) = ct at *
            replace hst:=Lib.hid hst
            replace hrw:=Lib.hid hrw
            have x6:=bs6.cell (i:=0) rfl
            go_wp2_with fail
            refine (hRaw.out _).mono ?_
            rintro e1 w7 ⟨rfl,rfl⟩
            rw [hrw.out]
            go_wp2_with fail
            refine (hC.out _).mono ?_
            rintro e1 w8 ⟨vc,rfl,hown8,hb8⟩
            have bs8:=bs6.below hb8 bs6.lt
            have bo8:=bo6.below hb8 bo6.lt
            have hl8:=hl6.below hb8
            have hb28:=Lib.hid (bt hb26.out hb8)
            have hz8:=hb8.size
            have hadd2:=Lib.hid (tokAdd ct E (M5.bs (R.drop N)) (acc ++ M5.keepT t) v6 vc wo.heap.size (wo.heap.size + 1) (wo.heap.size + 2) w8 bs8 bo8 (by omega) (by omega) (by omega) (by omega) hl8 (by omega) (by rw [bs_size]; exact hEle) (own_new hown8 hl6 (by omega)))
            obtain ⟨a8,c8,rfl⟩:=own_slice5 hown8
            clear x6 u0 u1 hb8
            go_wp2_with fail
            refine hadd2.out.mono ?_
            rintro e1 w9 ⟨rfl,v9,bo9,bs9,hl9,hk9⟩
            have hb29:=Lib.hid (hk9.below hb28.out (Nat.le_refl _) (by omega) (by omega) hl8)
            have hz9:=hk9.size
            rw [bs_cut0] at bs9
            go_wp2_with fail
            go_roundw
            case rel => exact ⟨(R.drop N).drop E,acc ++ M5.keepT t ++ M5.keepT ct,v9,bs9,bo9,hl9,hb29.out,by omega,by rw [List.length_append,List.length_drop]; omega,by show _ = _; rw [hv.out,hst.out,List.append_assoc,List.append_assoc]⟩
            case measure => exact hmeas.out _ _ bs9 (by rw [List.length_drop]; omega)
        · have ek : (t.kind == 1) = false:=beq_eq_false_iff_ne.2 hk1
          have hst:=htag.out (fun h => hk1 h.1)
          replace hk1:=Lib.hid hk1
          replace hst:=Lib.hid hst
          go_wp2_with fail
          go_roundw
          case rel => exact ⟨R.drop N,acc ++ M5.keepT t,v6,bs6,bo6,hl6,hb26.out,by omega,hlen6,by show _ = _; rw [hv.out,hst.out,List.append_assoc]⟩
          case measure => exact hmeas.out _ _ bs6 (by omega)
end Go.Proofs.YteefodibpjgicaaGreat
