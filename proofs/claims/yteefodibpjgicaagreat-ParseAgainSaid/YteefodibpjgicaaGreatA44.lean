/- Texts joined: Tok8, Tok9. -/
import Derived.Test.YteefodibpjgicaaGreatA3
import Derived.Test.YteefodibpjgicaaGreatA43
namespace Go.Proofs.YteefodibpjgicaaGreat
open Go.RowKit
theorem tag_code (c d : UInt8) (r : List UInt8) (h : M5.startsB (c :: d :: r) = true) (hd : M5.letterB d = false) : M5.tagR (c :: d :: r) =
    if d = 47 ∧ (r.head?.map M5.letterB) = some true then M5.endR r
    else if [60,47,62].isPrefixOf (c :: d :: r) then (M5.zero,(c :: d :: r).drop 3)
    else if [60,33,45,45].isPrefixOf (c :: d :: r) then M5.remarkR [45,45,62] ((c :: d :: r).drop 4)
    else M5.remarkR [62] r:=by
  rw [tag_else c d r h hd]
  by_cases hA : d = 47 ∧ (r.head?.map M5.letterB) = some true
  · have h1 : [60,33,45,45].isPrefixOf (c :: d :: r) = false:=by
      rw [hA.1]
      show (60 == c && (33 == (47 : UInt8) && _)) = false
      rw [show ((33 : UInt8) == 47) = false from by decide,Bool.false_and,Bool.and_false]
    have h2 : [60,47,62].isPrefixOf (c :: d :: r) = false:=by
      cases r with
      | nil => simp at hA
      | cons e t =>
        have he : M5.letterB e = true:=by simpa using hA.2
        have h62 : ((62 : UInt8) == e) = false:=by
          rw [beq_eq_false_iff_ne]
          intro x
          subst x
          exact absurd he (by decide)
        show (60 == c && (47 == d && (62 == e && _))) = false
        rw [h62,Bool.false_and,Bool.and_false,Bool.and_false]
    rw [h1,h2,if_neg Bool.false_ne_true,if_neg Bool.false_ne_true,if_pos hA,if_pos hA]
    rfl
  · rw [if_neg hA,if_neg hA]
    by_cases h4 : [60,33,45,45].isPrefixOf (c :: d :: r) = true
    · have h3 : [60,47,62].isPrefixOf (c :: d :: r) = false:=by
        have : d = 33:=by
          have h4' : (60 == c && (33 == d && [45,45].isPrefixOf r)) = true:=h4
          simp only [Bool.and_eq_true,beq_iff_eq] at h4'
          exact h4'.2.1.symm
        subst this
        show (60 == c && (47 == (33 : UInt8) && _)) = false
        rw [show ((47 : UInt8) == 33) = false from by decide,Bool.false_and,Bool.and_false]
      rw [if_pos h4,h3,if_neg Bool.false_ne_true,if_pos h4]
      rfl
    · rw [if_neg h4,if_neg h4]
      rfl
theorem letter_ask (c : UInt8) : M5.letterB c = askR M5.letterB c.toNat:=by
  by_cases hc : c.toNat < 128
  · rw [ask_low _ _ hc]
  · unfold askR
    rw [if_neg hc]
    unfold M5.letterB
    rw [Bool.eq_iff_iff]
    simp
    omega
theorem remark_at (s first last : ByteArray) (k : Nat) (hk : first.size = k) (hs : s.size ≤ 1073741824) (hf : k ≤ s.size) (hl : last.data.toList ≠ []) (P : Tok × List UInt8) (hP : P = M5.remarkR last.data.toList (s.data.toList.drop k)) :
    ∀ w,Glo w → Calls Tryz.prog 165 #[.string s,.string first,.string last] w (TokPost P.1 (s.size - P.2.length) w):=by
  subst hk hP
  exact fun w hg => tokRemark s first last w hg hs hf hl
set_option maxHeartbeats 8000000 in
set_option maxRecDepth 100000 in
theorem tokTag (s : ByteArray) (w : World) (hg : Glo w) (hs : s.size ≤ 1073741824) : Calls Tryz.prog 158 #[.string s] w (TokPost (M5.tagR s.data.toList).1 (s.size - (M5.tagR s.data.toList).2.length) w):=by
  have hst:=Lib.hid (fun w => tokStarts s w hs)
  obtain ⟨wo,rfl⟩ : ∃ wo : World,wo = w:=⟨_,rfl⟩
  have bx0:=Box.new wo 87 [.int .i64 0,.string ⟨#[]⟩,.slice none 0 0,.string ⟨#[]⟩]
  have hb0:=(Below.refl _ wo).alloc (Nat.le_refl _) (.cells #[.int .i64 0,.string ⟨#[]⟩,.slice none 0 0,.string ⟨#[]⟩] 87)
  have hg0:=Lib.hid (hg.below hb0 (Nat.le_refl _))
  replace hb0:=Lib.hid hb0
  have fin : ∀ (t : Tok) (n : Nat) (w2 : World) (va : Value),Below (wo.alloc (.cells #[.int .i64 0,.string ⟨#[]⟩,.slice none 0 0,.string ⟨#[]⟩] 87)).heap.size (wo.alloc (.cells #[.int .i64 0,.string ⟨#[]⟩,.slice none 0 0,.string ⟨#[]⟩] 87)) w2 → w2.ownsRow (wo.alloc (.cells #[.int .i64 0,.string ⟨#[]⟩,.slice none 0 0,.string ⟨#[]⟩] 87)).heap.size 43 2 va t.attrs.length (cellsA t.attrs) →
      Box w2 wo.heap.size 87 [.int .i64 0,.string ⟨#[]⟩,.slice none 0 0,.string ⟨#[]⟩] ∧ (∃ a c,va = .slice a t.attrs.length c) ∧ Hid (Box ((((w2.setCell ⟨wo.heap.size,0,none⟩ (.int .i64 t.kind)).setCell ⟨wo.heap.size,1,none⟩ (.string t.name)).setCell ⟨wo.heap.size,2,none⟩ va).setCell ⟨wo.heap.size,3,none⟩ (.string t.text)) wo.heap.size 87 [.int .i64 t.kind,.string t.name,va,.string t.text]) ∧
        Hid (TokPost t n wo (.returned (.tuple #[.agg #[.int .i64 t.kind,.string t.name,va,.string t.text],.int .i64 (n : Int)])) ((((w2.setCell ⟨wo.heap.size,0,none⟩ (.int .i64 t.kind)).setCell ⟨wo.heap.size,1,none⟩ (.string t.name)).setCell ⟨wo.heap.size,2,none⟩ va).setCell ⟨wo.heap.size,3,none⟩ (.string t.text))):=by
    intro t n w2 va hb ho
    have bx2:=bx0.below hb bx0.lt
    refine ⟨bx2,own_slice5 ho,Lib.hid (bx2.four _ _ _ _),Lib.hid (tokPost_own rfl (own_four (g:=wo.heap.size) ho (by simp) _ _ _ _) (by simp) (four_below (bt hb0.out hb) _ _ _ _ (Nat.le_refl _)))⟩
  replace fin:=Lib.hid fin
  cases hsB : M5.startsB s.data.toList
  · have hP:=Lib.hid (tag_no _ hsB)
    generalize M5.tagR s.data.toList = P at *
    have z0:=bx0.cell (i:=0) rfl
    have z1:=bx0.cell (i:=1) rfl
    have z2:=bx0.cell (i:=2) rfl
    have z3:=bx0.cell (i:=3) rfl
    have fz:=bx0.free
    go_enter Tryz.func158,Tryz.ntmps158
    go_wp2_with (go_at_call 161; refine (hst.out _).mono ?_; rintro e1 w2 ⟨rfl,rfl⟩; rw [hsB])
    exact bodyPost_ret (v:=.tuple #[.agg #[.int .i64 0,.string ⟨#[]⟩,.slice none 0 0,.string ⟨#[]⟩],.int .i64 0]) (by simp [results,Tryz.results158,go_sem,z0,z1,z2,z3]) rfl (by rw [hP.out]; exact tokPost_nil (by rw [List.drop_zero]; show _ = ((s.size - s.data.toList.length : Nat) : Int); rw [show s.data.toList.length = s.size from rfl]; omega) hb0.out)
  · obtain ⟨h2,hl⟩:=two_signs hsB
    have i0 : 0 < s.size:=by omega
    have hle : Hid (∀ w,Calls Tryz.prog 162 #[.int .i32 (wrap32 (s[1].toNat : Int))] w (BoolPost (M5.letterB s[1]) w)):=Lib.hid (fun w => by rw [wrap32_byte,letter_ask]; exact tokLetter s[1].toNat w)
    cases hlt : M5.letterB s[1]
    · have hc:=tag_code s[0] s[1] (s.data.toList.drop 2) (by rw [← hl]; exact hsB) hlt
      rw [← hl] at hc
      have e47 : ((s[1].toNat : Int) == 47) = (s[1] == 47):=(eqI _ 47).symm
      have h3 : 2 < s.size → (s.data.toList.drop 2).head? = s[2]?:=fun h => by
        rw [drop_cons s 2 h]
        exact (getElem?_pos s 2 h).symm
      by_cases hA : s[1] = 47 ∧ ((s.data.toList.drop 2).head?.map M5.letterB) = some true
      · have h2s : 2 < s.size:=by
          rcases Nat.lt_or_ge 2 s.size with h | h
          · exact h
          · have:=hA.2
            rw [drop_end s 2 h] at this
            cases this
        have hl2 : M5.letterB s[2] = true:=by
          have:=hA.2
          rw [drop_cons s 2 h2s] at this
          exact Option.some.inj this
        have hle2 : Hid (∀ w,Calls Tryz.prog 162 #[.int .i32 (wrap32 (s[2].toNat : Int))] w (BoolPost true w)):=Lib.hid (fun w => by rw [wrap32_byte,← hl2,letter_ask]; exact tokLetter s[2].toNat w)
        rw [if_pos hA] at hc
        have hE:=Lib.hid (fun w => tokEnd s w hs (by omega))
        rw [← hc] at hE
        have hx47 : ((s[1].toNat : Int) == 47) = true:=by rw [e47]; exact beq_iff_eq.2 hA.1
        generalize (M5.tagR s.data.toList).1 = t at *
        generalize s.size - (M5.tagR s.data.toList).2.length = n at *
        replace hl:=Lib.hid hl
        replace hc:=Lib.hid hc
        replace hA:=Lib.hid hA
        clear e47 h3
        go_enter Tryz.func158,Tryz.ntmps158
        go_wp2_with fail
        refine (hst.out _).mono ?_
        rintro e1 w2 ⟨rfl,rfl⟩
        rw [hsB]
        go_wp2_with fail
        refine (hle.out _).mono ?_
        rintro e1 w2 ⟨rfl,rfl⟩
        rw [hlt]
        go_wp2_with fail
        refine (hle2.out _).mono ?_
        rintro e1 w2 ⟨rfl,rfl⟩
        go_wp2_with fail
        refine (hE.out _).mono ?_
        rintro e1 w2 ⟨va,rfl,hown,hb2⟩
        obtain ⟨bx2,⟨a2,c2,rfl⟩,bf,hpost⟩:=fin.out t n w2 va hb2 hown
        have z0:=bx2.cell (i:=0) rfl
        have z1:=bx2.cell (i:=1) rfl
        have z2:=bx2.cell (i:=2) rfl
        have z3:=bx2.cell (i:=3) rfl
        have fz:=bx2.free
        clear hown hb2
        go_wp2_with fail
        have q0:=bf.out.cell (i:=0) rfl
        have q1:=bf.out.cell (i:=1) rfl
        have q2:=bf.out.cell (i:=2) rfl
        have q3:=bf.out.cell (i:=3) rfl
        exact bodyPost_ret (v:=.tuple #[.agg #[.int .i64 t.kind,.string t.name,.slice a2 t.attrs.length c2,.string t.text],.int .i64 (n : Int)]) (by simp [results,Tryz.results158,go_sem,q0,q1,q2,q3]) rfl hpost.out
      · rw [if_neg hA] at hc
        have hguard : ((s[1] == 47) = false) ∨ ((s[1] == 47) = true ∧ ¬ 2 < s.size) ∨ ((s[1] == 47) = true ∧ ∃ h : 2 < s.size,M5.letterB s[2] = false):=by
          by_cases h1 : s[1] = 47
          · by_cases h2s : 2 < s.size
            · refine .inr (.inr ⟨beq_iff_eq.2 h1,h2s,?_⟩)
              rcases Bool.eq_false_or_eq_true (M5.letterB s[2]) with h | h
              · exact absurd ⟨h1,by rw [drop_cons s 2 h2s]; exact congrArg some h⟩ hA
              · exact h
            · exact .inr (.inl ⟨beq_iff_eq.2 h1,h2s⟩)
          · exact .inl (beq_eq_false_iff_ne.2 h1)
        rw [← e47] at hguard
        replace hA:=Lib.hid hA
        clear h3 e47
        cases hp3 : Lib.hasPrefix s.data.toList [60,47,62]
        · rw [show [60,47,62].isPrefixOf s.data.toList = false from hp3,if_neg Bool.false_ne_true] at hc
          cases hp4 : Lib.hasPrefix s.data.toList [60,33,45,45]
          · rw [show [60,33,45,45].isPrefixOf s.data.toList = false from hp4,if_neg Bool.false_ne_true] at hc
            have hcall:=Lib.hid (remark_at s (s.extract 0 2) ⟨#[62]⟩ 2 (by rw [ByteArray.size_extract]; omega) hs (by omega) (by simp) _ hc)
            generalize (M5.tagR s.data.toList).1 = t at *
            generalize s.size - (M5.tagR s.data.toList).2.length = n at *
            replace hl:=Lib.hid hl
            replace hc:=Lib.hid hc
            rcases hguard with h47 | ⟨h47,h2n⟩ | ⟨h47,h2s,hl2⟩
            · go_enter Tryz.func158,Tryz.ntmps158
              go_wp2_with fail
              refine (hst.out _).mono ?_
              rintro e1 w2 ⟨rfl,rfl⟩
              rw [hsB]
              go_wp2_with fail
              refine (hle.out _).mono ?_
              rintro e1 w2 ⟨rfl,rfl⟩
              rw [hlt]
              go_wp2_with fail
              refine (hasPrefix_any _ _ _).mono ?_
              rintro e1 w2 ⟨rfl,rfl⟩
              rw [hp3]
              go_wp2_with fail
              refine (hasPrefix_any _ _ _).mono ?_
              rintro e1 w2 ⟨rfl,rfl⟩
              rw [hp4]
              go_wp2_with fail
              refine (hcall.out _ hg0.out).mono ?_
              rintro e1 w2 ⟨va,rfl,hown,hb2⟩
              obtain ⟨bx2,⟨a2,c2,rfl⟩,bf,hpost⟩:=fin.out t n w2 va hb2 hown
              have z0:=bx2.cell (i:=0) rfl
              have z1:=bx2.cell (i:=1) rfl
              have z2:=bx2.cell (i:=2) rfl
              have z3:=bx2.cell (i:=3) rfl
              have fz:=bx2.free
              clear hown hb2
              go_wp2_with fail
              have q0:=bf.out.cell (i:=0) rfl
              have q1:=bf.out.cell (i:=1) rfl
              have q2:=bf.out.cell (i:=2) rfl
              have q3:=bf.out.cell (i:=3) rfl
              exact bodyPost_ret (v:=.tuple #[.agg #[.int .i64 t.kind,.string t.name,.slice a2 t.attrs.length c2,.string t.text],.int .i64 (n : Int)]) (by simp [results,Tryz.results158,go_sem,q0,q1,q2,q3]) rfl hpost.out
            · go_enter Tryz.func158,Tryz.ntmps158
              go_wp2_with fail
              refine (hst.out _).mono ?_
              rintro e1 w2 ⟨rfl,rfl⟩
              rw [hsB]
              go_wp2_with fail
              refine (hle.out _).mono ?_
              rintro e1 w2 ⟨rfl,rfl⟩
              rw [hlt]
              go_wp2_with fail
              refine (hasPrefix_any _ _ _).mono ?_
              rintro e1 w2 ⟨rfl,rfl⟩
              rw [hp3]
              go_wp2_with fail
              refine (hasPrefix_any _ _ _).mono ?_
              rintro e1 w2 ⟨rfl,rfl⟩
              rw [hp4]
              go_wp2_with fail
              refine (hcall.out _ hg0.out).mono ?_
              rintro e1 w2 ⟨va,rfl,hown,hb2⟩
              obtain ⟨bx2,⟨a2,c2,rfl⟩,bf,hpost⟩:=fin.out t n w2 va hb2 hown
              have z0:=bx2.cell (i:=0) rfl
              have z1:=bx2.cell (i:=1) rfl
              have z2:=bx2.cell (i:=2) rfl
              have z3:=bx2.cell (i:=3) rfl
              have fz:=bx2.free
              clear hown hb2
              go_wp2_with fail
              have q0:=bf.out.cell (i:=0) rfl
              have q1:=bf.out.cell (i:=1) rfl
              have q2:=bf.out.cell (i:=2) rfl
              have q3:=bf.out.cell (i:=3) rfl
              exact bodyPost_ret (v:=.tuple #[.agg #[.int .i64 t.kind,.string t.name,.slice a2 t.attrs.length c2,.string t.text],.int .i64 (n : Int)]) (by simp [results,Tryz.results158,go_sem,q0,q1,q2,q3]) rfl hpost.out
            · have hle2 : Hid (∀ w,Calls Tryz.prog 162 #[.int .i32 (wrap32 (s[2].toNat : Int))] w (BoolPost false w)):=Lib.hid (fun w => by rw [wrap32_byte,← hl2,letter_ask]; exact tokLetter s[2].toNat w)
              go_enter Tryz.func158,Tryz.ntmps158
              go_wp2_with fail
              refine (hst.out _).mono ?_
              rintro e1 w2 ⟨rfl,rfl⟩
              rw [hsB]
              go_wp2_with fail
              refine (hle.out _).mono ?_
              rintro e1 w2 ⟨rfl,rfl⟩
              rw [hlt]
              go_wp2_with fail
              refine (hle2.out _).mono ?_
              rintro e1 w2 ⟨rfl,rfl⟩
              go_wp2_with fail
              refine (hasPrefix_any _ _ _).mono ?_
              rintro e1 w2 ⟨rfl,rfl⟩
              rw [hp3]
              go_wp2_with fail
              refine (hasPrefix_any _ _ _).mono ?_
              rintro e1 w2 ⟨rfl,rfl⟩
              rw [hp4]
              go_wp2_with fail
              refine (hcall.out _ hg0.out).mono ?_
              rintro e1 w2 ⟨va,rfl,hown,hb2⟩
              obtain ⟨bx2,⟨a2,c2,rfl⟩,bf,hpost⟩:=fin.out t n w2 va hb2 hown
              have z0:=bx2.cell (i:=0) rfl
              have z1:=bx2.cell (i:=1) rfl
              have z2:=bx2.cell (i:=2) rfl
              have z3:=bx2.cell (i:=3) rfl
              have fz:=bx2.free
              clear hown hb2
              go_wp2_with fail
              have q0:=bf.out.cell (i:=0) rfl
              have q1:=bf.out.cell (i:=1) rfl
              have q2:=bf.out.cell (i:=2) rfl
              have q3:=bf.out.cell (i:=3) rfl
              exact bodyPost_ret (v:=.tuple #[.agg #[.int .i64 t.kind,.string t.name,.slice a2 t.attrs.length c2,.string t.text],.int .i64 (n : Int)]) (by simp [results,Tryz.results158,go_sem,q0,q1,q2,q3]) rfl hpost.out
          · rw [show [60,33,45,45].isPrefixOf s.data.toList = true from hp4,if_pos rfl] at hc
            have h4s : 4 ≤ s.size:=by
              have h' : [60,33,45,45].isPrefixOf s.data.toList = true:=hp4
              have:=(List.isPrefixOf_iff_prefix.1 h').length_le
              exact this
            have hcall:=Lib.hid (remark_at s ⟨#[60,33,45,45]⟩ ⟨#[45,45,62]⟩ 4 rfl hs (by omega) (by simp) _ hc)
            generalize (M5.tagR s.data.toList).1 = t at *
            generalize s.size - (M5.tagR s.data.toList).2.length = n at *
            replace hl:=Lib.hid hl
            replace hc:=Lib.hid hc
            rcases hguard with h47 | ⟨h47,h2n⟩ | ⟨h47,h2s,hl2⟩
            · go_enter Tryz.func158,Tryz.ntmps158
              go_wp2_with fail
              refine (hst.out _).mono ?_
              rintro e1 w2 ⟨rfl,rfl⟩
              rw [hsB]
              go_wp2_with fail
              refine (hle.out _).mono ?_
              rintro e1 w2 ⟨rfl,rfl⟩
              rw [hlt]
              go_wp2_with fail
              refine (hasPrefix_any _ _ _).mono ?_
              rintro e1 w2 ⟨rfl,rfl⟩
              rw [hp3]
              go_wp2_with fail
              refine (hasPrefix_any _ _ _).mono ?_
              rintro e1 w2 ⟨rfl,rfl⟩
              rw [hp4]
              go_wp2_with fail
              refine (hcall.out _ hg0.out).mono ?_
              rintro e1 w2 ⟨va,rfl,hown,hb2⟩
              obtain ⟨bx2,⟨a2,c2,rfl⟩,bf,hpost⟩:=fin.out t n w2 va hb2 hown
              have z0:=bx2.cell (i:=0) rfl
              have z1:=bx2.cell (i:=1) rfl
              have z2:=bx2.cell (i:=2) rfl
              have z3:=bx2.cell (i:=3) rfl
              have fz:=bx2.free
              clear hown hb2
              go_wp2_with fail
              have q0:=bf.out.cell (i:=0) rfl
              have q1:=bf.out.cell (i:=1) rfl
              have q2:=bf.out.cell (i:=2) rfl
              have q3:=bf.out.cell (i:=3) rfl
              exact bodyPost_ret (v:=.tuple #[.agg #[.int .i64 t.kind,.string t.name,.slice a2 t.attrs.length c2,.string t.text],.int .i64 (n : Int)]) (by simp [results,Tryz.results158,go_sem,q0,q1,q2,q3]) rfl hpost.out
            · exact absurd h2n (by omega)
            · have hle2 : Hid (∀ w,Calls Tryz.prog 162 #[.int .i32 (wrap32 (s[2].toNat : Int))] w (BoolPost false w)):=Lib.hid (fun w => by rw [wrap32_byte,← hl2,letter_ask]; exact tokLetter s[2].toNat w)
              go_enter Tryz.func158,Tryz.ntmps158
              go_wp2_with fail
              refine (hst.out _).mono ?_
              rintro e1 w2 ⟨rfl,rfl⟩
              rw [hsB]
              go_wp2_with fail
              refine (hle.out _).mono ?_
              rintro e1 w2 ⟨rfl,rfl⟩
              rw [hlt]
              go_wp2_with fail
              refine (hle2.out _).mono ?_
              rintro e1 w2 ⟨rfl,rfl⟩
              go_wp2_with fail
              refine (hasPrefix_any _ _ _).mono ?_
              rintro e1 w2 ⟨rfl,rfl⟩
              rw [hp3]
              go_wp2_with fail
              refine (hasPrefix_any _ _ _).mono ?_
              rintro e1 w2 ⟨rfl,rfl⟩
              rw [hp4]
              go_wp2_with fail
              refine (hcall.out _ hg0.out).mono ?_
              rintro e1 w2 ⟨va,rfl,hown,hb2⟩
              obtain ⟨bx2,⟨a2,c2,rfl⟩,bf,hpost⟩:=fin.out t n w2 va hb2 hown
              have z0:=bx2.cell (i:=0) rfl
              have z1:=bx2.cell (i:=1) rfl
              have z2:=bx2.cell (i:=2) rfl
              have z3:=bx2.cell (i:=3) rfl
              have fz:=bx2.free
              clear hown hb2
              go_wp2_with fail
              have q0:=bf.out.cell (i:=0) rfl
              have q1:=bf.out.cell (i:=1) rfl
              have q2:=bf.out.cell (i:=2) rfl
              have q3:=bf.out.cell (i:=3) rfl
              exact bodyPost_ret (v:=.tuple #[.agg #[.int .i64 t.kind,.string t.name,.slice a2 t.attrs.length c2,.string t.text],.int .i64 (n : Int)]) (by simp [results,Tryz.results158,go_sem,q0,q1,q2,q3]) rfl hpost.out
        · rw [show [60,47,62].isPrefixOf s.data.toList = true from hp3,if_pos rfl] at hc
          have h3s : 3 ≤ s.size:=by
            have h' : [60,47,62].isPrefixOf s.data.toList = true:=hp3
            have:=(List.isPrefixOf_iff_prefix.1 h').length_le
            exact this
          have hz3 : Hid (TokPost (M5.tagR s.data.toList).1 (s.size - (M5.tagR s.data.toList).2.length) wo (.returned (.tuple #[.agg #[.int .i64 0,.string ⟨#[]⟩,.slice none 0 0,.string ⟨#[]⟩],.int .i64 3])) (wo.alloc (.cells #[.int .i64 0,.string ⟨#[]⟩,.slice none 0 0,.string ⟨#[]⟩] 87))):=by
            show TokPost _ _ _ _ _
            rw [hc]
            exact tokPost_nil (by show _ = ((s.size - (s.data.toList.drop 3).length : Nat) : Int); rw [List.length_drop,show s.data.toList.length = s.size from rfl]; omega) hb0.out
          have z0:=bx0.cell (i:=0) rfl
          have z1:=bx0.cell (i:=1) rfl
          have z2:=bx0.cell (i:=2) rfl
          have z3:=bx0.cell (i:=3) rfl
          have fz:=bx0.free
          generalize (M5.tagR s.data.toList).1 = t at *
          generalize s.size - (M5.tagR s.data.toList).2.length = n at *
          replace hl:=Lib.hid hl
          replace hc:=Lib.hid hc
          rcases hguard with h47 | ⟨h47,h2n⟩ | ⟨h47,h2s,hl2⟩
          · go_enter Tryz.func158,Tryz.ntmps158
            go_wp2_with fail
            refine (hst.out _).mono ?_
            rintro e1 w2 ⟨rfl,rfl⟩
            rw [hsB]
            go_wp2_with fail
            refine (hle.out _).mono ?_
            rintro e1 w2 ⟨rfl,rfl⟩
            rw [hlt]
            go_wp2_with fail
            refine (hasPrefix_any _ _ _).mono ?_
            rintro e1 w2 ⟨rfl,rfl⟩
            rw [hp3]
            go_wp2_with fail
            exact bodyPost_ret (v:=.tuple #[.agg #[.int .i64 0,.string ⟨#[]⟩,.slice none 0 0,.string ⟨#[]⟩],.int .i64 3]) (by simp [results,Tryz.results158,go_sem,z0,z1,z2,z3]) rfl hz3.out
          · exact absurd h2n (by omega)
          · have hle2 : Hid (∀ w,Calls Tryz.prog 162 #[.int .i32 (wrap32 (s[2].toNat : Int))] w (BoolPost false w)):=Lib.hid (fun w => by rw [wrap32_byte,← hl2,letter_ask]; exact tokLetter s[2].toNat w)
            go_enter Tryz.func158,Tryz.ntmps158
            go_wp2_with fail
            refine (hst.out _).mono ?_
            rintro e1 w2 ⟨rfl,rfl⟩
            rw [hsB]
            go_wp2_with fail
            refine (hle.out _).mono ?_
            rintro e1 w2 ⟨rfl,rfl⟩
            rw [hlt]
            go_wp2_with fail
            refine (hle2.out _).mono ?_
            rintro e1 w2 ⟨rfl,rfl⟩
            go_wp2_with fail
            refine (hasPrefix_any _ _ _).mono ?_
            rintro e1 w2 ⟨rfl,rfl⟩
            rw [hp3]
            go_wp2_with fail
            exact bodyPost_ret (v:=.tuple #[.agg #[.int .i64 0,.string ⟨#[]⟩,.slice none 0 0,.string ⟨#[]⟩],.int .i64 3]) (by simp [results,Tryz.results158,go_sem,z0,z1,z2,z3]) rfl hz3.out
    · have hP : Hid (M5.tagR s.data.toList = M5.beginR s.data.toList):=by
        show _ = _
        rw [hl] at hsB ⊢
        exact tag_begin _ _ _ hsB hlt
      have hbg:=Lib.hid (fun w => tokBegin s w hs (by omega))
      rw [hP.out]
      clear hP
      generalize (M5.beginR s.data.toList).1 = t at *
      generalize s.size - (M5.beginR s.data.toList).2.length = n at *
      replace hl:=Lib.hid hl
      go_enter Tryz.func158,Tryz.ntmps158
      go_wp2_with (first | (go_at_call 161; refine (hst.out _).mono ?_; rintro e1 w2 ⟨rfl,rfl⟩; rw [hsB]) | (go_at_call 162; refine (hle.out _).mono ?_; rintro e1 w2 ⟨rfl,rfl⟩; rw [hlt]))
      refine (hbg.out _).mono ?_
      rintro e1 w2 ⟨va,rfl,hown,hb2⟩
      obtain ⟨bx2,⟨a2,c2,rfl⟩,bf,hpost⟩:=fin.out t n w2 va hb2 hown
      have z0:=bx2.cell (i:=0) rfl
      have z1:=bx2.cell (i:=1) rfl
      have z2:=bx2.cell (i:=2) rfl
      have z3:=bx2.cell (i:=3) rfl
      have fz:=bx2.free
      clear hown hb2
      go_wp2_with fail
      have q0:=bf.out.cell (i:=0) rfl
      have q1:=bf.out.cell (i:=1) rfl
      have q2:=bf.out.cell (i:=2) rfl
      have q3:=bf.out.cell (i:=3) rfl
      exact bodyPost_ret (v:=.tuple #[.agg #[.int .i64 t.kind,.string t.name,.slice a2 t.attrs.length c2,.string t.text],.int .i64 (n : Int)]) (by simp [results,Tryz.results158,go_sem,q0,q1,q2,q3]) rfl hpost.out
end Go.Proofs.YteefodibpjgicaaGreat

namespace Go.Proofs.YteefodibpjgicaaGreat
open Go.RowKit
theorem rune_plain (l : List UInt8) (hl : l ≠ []) :
    ((M1.dec l).1 ≠ 60 → M5.plainN l = (M1.dec l).2 + M5.plainN (l.drop (M1.dec l).2)) ∧ ((M1.dec l).1 = 60 → (M1.dec l).2 = 1):=by
  obtain ⟨c,r,rfl⟩:=List.exists_cons_of_ne_nil hl
  have hle:=M1.dec_le (c :: r) hl
  by_cases h : c.toNat < 128
  · have e:=dec_low _ c r rfl h
    rw [e]
    refine ⟨fun hc => ?_,fun _ => rfl⟩
    refine M5.plainN_skip 1 _ (by simp) (fun k hk => ?_)
    obtain rfl : k = 0:=by omega
    rw [List.drop_zero]
    cases hs : M5.startsB (c :: r)
    · rfl
    · obtain ⟨t,ht⟩:=M5.starts_head _ hs
      have : c = 60:=(List.cons.inj ht).1
      subst this
      exact absurd rfl hc
  · obtain ⟨h1,h2⟩:=dec_high (c :: r) c r rfl (by omega)
    refine ⟨fun _ => ?_,fun hc => by omega⟩
    refine M5.plainN_skip _ _ hle (fun k hk => ?_)
    cases hs : M5.startsB ((c :: r).drop k)
    · rfl
    · obtain ⟨t,ht⟩:=M5.starts_head _ hs
      have hk2 : k < (c :: r).length:=by omega
      rw [List.drop_eq_getElem_cons hk2] at ht
      have h3:=h2 k hk hk2
      rw [(List.cons.inj ht).1] at h3
      exact absurd h3 (by decide)
set_option maxHeartbeats 2000000 in
set_option maxRecDepth 100000 in
theorem tokPlain (s : ByteArray) (w : World) (hs : s.size ≤ 1073741824) :
    Calls Tryz.prog 166 #[.string s] w fun e w' => e = .returned (.int .i64 (M5.plainN s.data.toList : Int)) ∧ Below w.heap.size w w':=by
  obtain ⟨N,hN⟩ : ∃ N,Hid (N = M5.plainN s.data.toList):=⟨_,rfl⟩
  rw [← hN.out]
  obtain ⟨wo,rfl⟩ : ∃ wo : World,wo = w:=⟨_,rfl⟩
  go_enter Tryz.func166,Tryz.ntmps166
  go_wp2_with fail
  go_loopw [] (fun wr => ∃ pos : Nat,pos ≤ s.size ∧ wr.heap[wo.heap.size]? = some (.stringIter s pos) ∧ Below wo.heap.size wo wr ∧ Hid (N = pos + M5.plainN (s.data.toList.drop pos))) (fun wr => s.size - wr.iterPos wo.heap.size)
  case atStart => exact ⟨0,by omega,World.iter_heap wo s 0,(Below.refl _ wo).alloc (Nat.le_refl _) _,by show _ = _; rw [hN.out]; simp⟩
  case round =>
    obtain ⟨pos,hpl,hit,hbw,hv⟩:=hrel
    have hsz : wo.heap.size < wr.heap.size:=(Array.getElem?_eq_some_iff.1 hit).1
    by_cases hp : pos < s.size
    · have hp' : pos < s.data.toList.length:=hp
      have hne:=drop_ne hp'
      have hnx:=next_dec (P:=Tryz.prog) wr wo.heap.size s pos hit hp
      have hst0:=rune_plain _ hne
      have hw1:=M1.dec_pos _ hne
      have hw2:=M1.dec_le _ hne
      have hlt:=M1.dec_lt (s.data.toList.drop pos)
      rw [List.drop_drop] at hst0
      rw [List.length_drop,show s.data.toList.length = s.size from rfl] at hw2
      have hbw1:=Lib.below_iterAt hbw (Nat.le_refl _) s (pos + (M1.dec (s.data.toList.drop pos)).2)
      have hit1:=Lib.iterAt_heap wr wo.heap.size s pos (pos + (M1.dec (s.data.toList.drop pos)).2) hit
      have hS:=fun w => tokStarts (s.extract pos s.size) w (by rw [ByteArray.size_extract]; omega)
      rw [dropk_bs,M5.bs_data] at hS
      have hx : Hid (s.extract pos s.size = M5.bs (s.data.toList.drop pos)):=Lib.hid (dropk_bs s pos)
      generalize (M1.dec (s.data.toList.drop pos)).1 = r at *
      generalize (M1.dec (s.data.toList.drop pos)).2 = wd at *
      generalize wr.iterAt wo.heap.size s (pos + wd) = w1 at *
      have hst:=Lib.hid hst0
      clear hst0 hne hbw
      replace hS:=Lib.hid hS
      by_cases h60 : r = 60
      · have e60 : ((r : Int) == 60) = true:=by rw [h60]; rfl
        obtain rfl : wd = 1:=hst.out.2 h60
        cases hb : M5.startsB (s.data.toList.drop pos)
        · have hv2 : Hid (N = pos + 1 + M5.plainN (s.data.toList.drop (pos + 1))):=by
            show _ = _
            rw [hv.out]
            rw [drop_cons s pos hp] at hb ⊢
            rw [M5.plainN,hb,if_neg Bool.false_ne_true]
            omega
          go_wp2_with fail
          rw [hx.out]
          refine (hS.out _).mono ?_
          rintro e1 w2 ⟨rfl,rfl⟩
          rw [hb]
          go_wp2_with fail
          go_roundw
          case rel => exact ⟨pos + 1,by omega,hit1,hbw1,hv2⟩
          case measure => rw [iterPos_of hit1,iterPos_of hit]; omega
        · have hk : N = pos:=by rw [hv.out,M5.plainN_yes _ hb]; rfl
          go_wp2_with fail
          rw [hx.out]
          refine (hS.out _).mono ?_
          rintro e1 w2 ⟨rfl,rfl⟩
          rw [hb]
          go_wp2_with fail
          go_ret
          exact ⟨by rw [hk]; rfl,hbw1⟩
      · have e60 : ((r : Int) == 60) = false:=by rw [beq_eq_false_iff_ne]; omega
        have hv2 : Hid (N = pos + wd + M5.plainN (s.data.toList.drop (pos + wd))):=by show _ = _; rw [hv.out,hst.out.1 h60]; omega
        go_wp2_with fail
        go_roundw
        case rel => exact ⟨pos + wd,by omega,hit1,hbw1,hv2⟩
        case measure => rw [iterPos_of hit1,iterPos_of hit]; omega
    · have hnx:=fun ty => Lib.run_next_end_at (P:=Tryz.prog) wr wo.heap.size s pos ty hit hp
      have hk : N = s.size:=by rw [hv.out,drop_end s pos (by omega)]; show pos + 0 = _; omega
      go_wp2_with fail
      go_ret
      exact ⟨by rw [hk]; rfl,hbw⟩
set_option maxHeartbeats 2000000 in
set_option maxRecDepth 100000 in
theorem tokChars (s : ByteArray) (w : World) (hs : s.size ≤ 1073741824) : Calls Tryz.prog 159 #[.string s] w (TokPost (M5.charsC s.data.toList) (M5.plainN s.data.toList) w):=by
  have hP:=Lib.hid (fun w => tokPlain s w hs)
  have hle : M5.plainN s.data.toList ≤ s.size:=M5.plainN_le _
  have hD:=fun w => refsDecode (s.extract 0 (M5.plainN s.data.toList)) w (by rw [ByteArray.size_extract]; omega)
  unfold M5.charsC
  obtain ⟨dv,hdv⟩ : ∃ x,Hid (x = M5.bs (M2.decode (s.data.toList.take (M5.plainN s.data.toList)))):=⟨_,rfl⟩
  have hD1 : Gives1 167 #[.string (s.extract 0 (M5.plainN s.data.toList))] dv:=fun w => (hD w).mono (by
    rintro e w' ⟨rfl,hb⟩
    refine ⟨?_,hb⟩
    rw [hdv.out,Lib.extract_data,List.drop_zero,Nat.sub_zero]
    rfl)
  rw [← hdv.out]
  clear hD
  generalize M5.plainN s.data.toList = N at *
  replace hD1:=Lib.hid hD1
  obtain ⟨wo,rfl⟩ : ∃ wo : World,wo = w:=⟨_,rfl⟩
  have bx0:=Box.new wo 87 [.int .i64 0,.string ⟨#[]⟩,.slice none 0 0,.string ⟨#[]⟩]
  have hb0:=Lib.hid ((Below.refl _ wo).alloc (Nat.le_refl _) (.cells #[.int .i64 0,.string ⟨#[]⟩,.slice none 0 0,.string ⟨#[]⟩] 87))
  go_enter Tryz.func159,Tryz.ntmps159
  go_wp2_with fail
  refine (hP.out _).mono ?_
  rintro e1 w1 ⟨rfl,hb1⟩
  have bx1:=bx0.below hb1 bx0.lt
  have hbW1:=Lib.hid (bt hb0.out hb1)
  go_wp2_with fail
  refine (hD1.out _).mono ?_
  rintro e1 w2 ⟨rfl,hb2⟩
  have bx2:=bx1.below hb2 bx1.lt
  have hbW2:=Lib.hid (bt hbW1.out hb2)
  have z0:=bx2.cell (i:=0) rfl
  have z1:=bx2.cell (i:=1) rfl
  have z2:=bx2.cell (i:=2) rfl
  have z3:=bx2.cell (i:=3) rfl
  have fz:=bx2.free
  have bf:=Lib.hid (bx2.four (.int .i64 3) (.string ⟨#[]⟩) (.slice none 0 0) (.string dv))
  clear hb1 hb2
  go_wp2_with fail
  have q0:=bf.out.cell (i:=0) rfl
  have q1:=bf.out.cell (i:=1) rfl
  have q2:=bf.out.cell (i:=2) rfl
  have q3:=bf.out.cell (i:=3) rfl
  exact bodyPost_ret (v:=.tuple #[.agg #[.int .i64 3,.string ⟨#[]⟩,.slice none 0 0,.string dv],.int .i64 (N : Int)]) (by simp [results,Tryz.results159,go_sem,q0,q1,q2,q3]) rfl (tokPost_nil rfl (four_below hbW2.out _ _ _ _ (Nat.le_refl _)))
end Go.Proofs.YteefodibpjgicaaGreat
