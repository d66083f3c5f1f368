/- Texts joined: Ref05i. -/
import Derived.Test.YteefodibpjgicaaGreatA3
import Derived.Test.YteefodibpjgicaaGreatA38
namespace Go.Proofs.YteefodibpjgicaaGreat
open Go.RowKit
theorem refPost_nil {k : Int} {nm tx : ByteArray} {n : Nat} {z : Int} {w w' : World} (hz : z = (n : Int)) (hb : Below w.heap.size w w') :
    TokPost ⟨k,nm,[],tx⟩ n w (.returned (.tuple #[.agg #[.int .i64 k,.string nm,.slice none 0 0,.string tx],.int .i64 z])) w':=by
  subst hz
  exact ⟨.slice none 0 0,rfl,World.ownsRow_nil _ w.heap.size _ _,hb⟩
theorem refPost_nil' {P : Tok × List UInt8} {k : Int} {nm tx : ByteArray} {L : Nat} {r : List UInt8} {z : Int} {w w' : World} (hP : P = (⟨k,nm,[],tx⟩,r)) (hz : z = ((L - r.length : Nat) : Int)) (hb : Below w.heap.size w w') :
    TokPost P.1 (L - P.2.length) w (.returned (.tuple #[.agg #[.int .i64 k,.string nm,.slice none 0 0,.string tx],.int .i64 z])) w':=by
  subst hP
  exact refPost_nil hz hb
theorem cutE (s : ByteArray) (l : List UInt8) (k : Nat) (hk : l.length = k) (b : Bool) (h : l.isPrefixOf s.data.toList = b) : ((s.extract 0 k).toList == l) = b:=by
  have:=cut4 s k ⟨l.toArray⟩ (by show l.toArray.size = k; simpa using hk)
  rw [Lib.toList_data (⟨l.toArray⟩ : ByteArray)] at this
  rw [← h]
  simpa using this
theorem pre_len {l m : List UInt8} (h : l.isPrefixOf m = true) : l.length ≤ m.length:=(List.isPrefixOf_iff_prefix.1 h).length_le
set_option maxHeartbeats 8000000 in
set_option maxRecDepth 100000 in
theorem ref05Tag (s : ByteArray) (w : World) (hs : s.size ≤ 1073741824) : Calls Tryz.prog 68 #[.string s] w (TokPost (M5.tagR s.data.toList).1 (s.size - (M5.tagR s.data.toList).2.length) w):=by
  by_cases heasy : M5.startsB s.data.toList = true → ∀ h2 : 1 < s.size,M5.letterB s[1] = true
  · exact ref05Tag_easy s w hs heasy
  have hst:=Lib.hid (fun w => ref05Starts s w hs)
  have hsB : M5.startsB s.data.toList = true:=by
    cases h : M5.startsB s.data.toList
    · exact absurd (fun e => by rw [h] at e; cases e) heasy
    · rfl
  obtain ⟨h2,hl⟩:=two_signs hsB
  have hlt : M5.letterB s[1] = false:=by
    cases h : M5.letterB s[1]
    · rfl
    · exact absurd (fun _ _ => h) heasy
  clear heasy
  have hle:=Lib.hid (fun w => ref05letter s[1] w)
  have hc:=tag_else s[0] s[1] (s.data.toList.drop 2) (by rw [← hl]; exact hsB) hlt
  rw [← hl] at hc
  have hsl : s.data.toList.length = s.size:=rfl
  obtain ⟨wo,rfl⟩ : ∃ wo : World,wo = w:=⟨_,rfl⟩
  have bx0:=Box.new wo 87 [.int .i64 0,.string ⟨#[]⟩,.slice none 0 0,.string ⟨#[]⟩]
  have hb0:=Lib.hid ((Below.refl _ wo).alloc (Nat.le_refl _) (.cells #[.int .i64 0,.string ⟨#[]⟩,.slice none 0 0,.string ⟨#[]⟩] 87))
  cases hp4 : [60,33,45,45].isPrefixOf s.data.toList
  · rw [hp4,if_neg Bool.false_ne_true] at hc
    have h4e:=cutE s [60,33,45,45] 4 rfl false hp4
    cases hp3 : [60,47,62].isPrefixOf s.data.toList
    · rw [hp3,if_neg Bool.false_ne_true] at hc
      have h3e:=cutE s [60,47,62] 3 rfl false hp3
      have e47 : ((s[1].toNat : Int) == 47) = (s[1] == 47):=(eqI _ 47).symm
      by_cases hA : s[1] = 47 ∧ ((s.data.toList.drop 2).head?.map M5.letterB) = some true
      · have h2s : 2 < s.size:=by
          rcases Nat.lt_or_ge 2 s.size with h | h
          · exact h
          · have:=hA.2
            rw [drop_end s 2 h] at this
            cases this
        have hl2 : M5.letterB s[2] = true:=by
          have:=hA.2
          rw [drop_cons s 2 h2s] at this
          exact Option.some.inj this
        have hle2 : Hid (∀ w,Calls Tryz.prog 84 #[.int .u8 (s[2].toNat : Int)] w (BoolPost true w)):=Lib.hid (fun w => by rw [← hl2]; exact ref05letter s[2] w)
        rw [if_pos hA] at hc
        have hx47 : ((s[1].toNat : Int) == 47) = true:=by rw [e47]; exact beq_iff_eq.2 hA.1
        have hdl : (s.data.toList.drop 2).length = s.size - 2:=by rw [List.length_drop]; rfl
        have hFd:=Lib.hid (fun w => ref05find s ⟨#[62]⟩ 2 w hs (by decide) (by decide) (by omega))
        have hNm:=Lib.hid (fun w => ref05name s 2 w hs (by omega))
        have hfl:=M5.findL_le [62] (s.data.toList.drop 2)
        rw [hdl] at hfl hc
        obtain ⟨nm,hnm⟩ : ∃ x,Hid (x = M5.bs (M1.fold ((s.data.toList.drop 2).takeWhile M5.nameB))):=⟨_,rfl⟩
        rw [← hnm.out,List.drop_drop] at hc
        have hNm2 : Hid (∀ w,Calls Tryz.prog 89 #[.string s,.int .i64 2] w (fun e w' => ∃ K : Int,e = .returned (.tuple #[.string nm,.int .i64 K]) ∧ Below w.heap.size w w')):=Lib.hid (fun w => (hNm.out w).mono (by
          rintro e w' ⟨rfl,hb⟩
          exact ⟨((2 + M5.spanN M5.nameB (s.data.toList.drop 2) : Nat) : Int),by rw [hnm.out]; rfl,hb⟩))
        have hFd2 : Hid (∀ w,Calls Tryz.prog 88 #[.string s,.int .i64 2,.string ⟨#[62]⟩] w (PosPost (2 + M5.findL [62] (s.data.toList.drop 2)) w)):=hFd
        clear hFd hNm
        generalize M5.findL [62] (s.data.toList.drop 2) = F at *
        have hdl2 : (s.data.toList.drop (2 + (F + 1))).length = s.size - (2 + (F + 1)):=by rw [List.length_drop]; rfl
        replace hdl:=Lib.hid hdl
        replace hA:=Lib.hid hA
        clear e47
        by_cases hF : F < s.size - 2
        · rw [if_pos hF] at hc
          have hfin:=fun (w' : World) (hb : Below wo.heap.size wo w') => refPost_nil' (L:=s.size) (z:=(2 : Int) + (F : Int) + 1) (w:=wo) (w':=w') hc (by rw [hdl2]; omega) hb
          generalize TokPost (M5.tagR s.data.toList).1 (s.size - (M5.tagR s.data.toList).2.length) wo = Post at *
          replace hl:=Lib.hid hl
          replace hc:=Lib.hid hc
          replace hdl2:=Lib.hid hdl2
          replace hfin:=Lib.hid hfin
          have hge : decide ((s.size : Int) ≤ (2 : Int) + (F : Int)) = false:=decide_eq_false (by omega)
          rcases Nat.lt_or_ge s.size 4 with h4s | h4s
          all_goals
            go_enter Tryz.func68,Tryz.ntmps68
            go_wp2_with fail
            refine (hst.out _).mono ?_
            rintro e1 w2 ⟨rfl,rfl⟩
            rw [hsB]
            go_wp2_with fail
            refine (hle.out _).mono ?_
            rintro e1 w2 ⟨rfl,rfl⟩
            rw [hlt]
            go_wp2_with fail
            refine (hle2.out _).mono ?_
            rintro e1 w2 ⟨rfl,rfl⟩
            go_wp2_with fail
            refine (hFd2.out _).mono ?_
            rintro e1 w2 ⟨rfl,rfl⟩
            go_wp2_with fail
            refine (hNm2.out _).mono ?_
            rintro e1 w2 ⟨K,rfl,hb2⟩
            have bx2:=bx0.below hb2 bx0.lt
            have z0:=bx2.cell (i:=0) rfl
            have z1:=bx2.cell (i:=1) rfl
            have z2:=bx2.cell (i:=2) rfl
            have z3:=bx2.cell (i:=3) rfl
            have fz:=bx2.free
            have bf:=Lib.hid (bx2.four (.int .i64 2) (.string nm) (.slice none 0 0) (.string ⟨#[]⟩))
            have hbW:=Lib.hid (bt hb0.out hb2)
            clear hb2
            go_wp2_with fail
            have q0:=bf.out.cell (i:=0) rfl
            have q1:=bf.out.cell (i:=1) rfl
            have q2:=bf.out.cell (i:=2) rfl
            have q3:=bf.out.cell (i:=3) rfl
            exact bodyPost_ret (v:=.tuple #[.agg #[.int .i64 2,.string nm,.slice none 0 0,.string ⟨#[]⟩],.int .i64 ((2 : Int) + (F : Int) + 1)]) (by simp [results,Tryz.results68,go_sem,q0,q1,q2,q3]) rfl (hfin.out _ (four_below hbW.out _ _ _ _ (Nat.le_refl _)))
        · rw [if_neg hF] at hc
          have hz : Hid (TokPost (M5.tagR s.data.toList).1 (s.size - (M5.tagR s.data.toList).2.length) wo (.returned (.tuple #[.agg #[.int .i64 0,.string ⟨#[]⟩,.slice none 0 0,.string ⟨#[]⟩],.int .i64 (s.size : Int)])) (wo.alloc (.cells #[.int .i64 0,.string ⟨#[]⟩,.slice none 0 0,.string ⟨#[]⟩] 87))) :=
            Lib.hid (refPost_nil' hc (by show _ = ((s.size - 0 : Nat) : Int); omega) hb0.out)
          have z0:=bx0.cell (i:=0) rfl
          have z1:=bx0.cell (i:=1) rfl
          have z2:=bx0.cell (i:=2) rfl
          have z3:=bx0.cell (i:=3) rfl
          have fz:=bx0.free
          generalize TokPost (M5.tagR s.data.toList).1 (s.size - (M5.tagR s.data.toList).2.length) wo = Post at *
          replace hl:=Lib.hid hl
          replace hc:=Lib.hid hc
          have hge : decide ((s.size : Int) ≤ (2 : Int) + (F : Int)) = true:=decide_eq_true (by omega)
          rcases Nat.lt_or_ge s.size 4 with h4s | h4s
          all_goals
            go_enter Tryz.func68,Tryz.ntmps68
            go_wp2_with fail
            refine (hst.out _).mono ?_
            rintro e1 w2 ⟨rfl,rfl⟩
            rw [hsB]
            go_wp2_with fail
            refine (hle.out _).mono ?_
            rintro e1 w2 ⟨rfl,rfl⟩
            rw [hlt]
            go_wp2_with fail
            refine (hle2.out _).mono ?_
            rintro e1 w2 ⟨rfl,rfl⟩
            go_wp2_with fail
            refine (hFd2.out _).mono ?_
            rintro e1 w2 ⟨rfl,rfl⟩
            go_wp2_with fail
            exact bodyPost_ret (v:=.tuple #[.agg #[.int .i64 0,.string ⟨#[]⟩,.slice none 0 0,.string ⟨#[]⟩],.int .i64 (s.size : Int)]) (by simp [results,Tryz.results68,go_sem,z0,z1,z2,z3]) rfl hz.out
      · rw [if_neg hA] at hc
        have hguard : ((s[1] == 47) = false) ∨ ((s[1] == 47) = true ∧ ¬ 2 < s.size) ∨ ((s[1] == 47) = true ∧ ∃ h : 2 < s.size,M5.letterB s[2] = false):=by
          by_cases h1 : s[1] = 47
          · by_cases h2s : 2 < s.size
            · refine .inr (.inr ⟨beq_iff_eq.2 h1,h2s,?_⟩)
              rcases Bool.eq_false_or_eq_true (M5.letterB s[2]) with h | h
              · exact absurd ⟨h1,by rw [drop_cons s 2 h2s]; exact congrArg some h⟩ hA
              · exact h
            · exact .inr (.inl ⟨beq_iff_eq.2 h1,h2s⟩)
          · exact .inl (beq_eq_false_iff_ne.2 h1)
        rw [← e47] at hguard
        replace hA:=Lib.hid hA
        clear e47
        have hU:=fun w => ref05upto s ⟨#[62]⟩ 2 w hs (by decide) (by decide) (by omega)
        have hfin:=fun (w' : World) (hb : Below wo.heap.size wo w') => refPost_nil' (L:=s.size) (w:=wo) (w':=w') hc rfl hb
        generalize TokPost (M5.tagR s.data.toList).1 (s.size - (M5.tagR s.data.toList).2.length) wo = Post at *
        generalize M5.uptoR [62] (s.data.toList.drop 2) = p at *
        have bf:=Lib.hid (Box.new wo 87 [.int .i64 4,.string ⟨#[]⟩,.slice none 0 0,.string (M5.bs p.1)])
        have hfin2:=Lib.hid (hfin _ ((Below.refl _ wo).alloc (Nat.le_refl _) (.cells #[.int .i64 4,.string ⟨#[]⟩,.slice none 0 0,.string (M5.bs p.1)] 87)))
        clear hfin
        replace hl:=Lib.hid hl
        replace hc:=Lib.hid hc
        replace hU:=Lib.hid hU
        have z0:=bx0.cell (i:=0) rfl
        have z1:=bx0.cell (i:=1) rfl
        have z2:=bx0.cell (i:=2) rfl
        have z3:=bx0.cell (i:=3) rfl
        have fz:=bx0.free
        have hsz : s.size < 3 ∨ (¬ s.size < 3 ∧ s.size < 4) ∨ ¬ s.size < 4:=by omega
        rcases hguard with h47 | ⟨h47,h2n⟩ | ⟨h47,h2s,hl2⟩
        · rcases hsz with h3s | ⟨h3s,h4s⟩ | h4s
          all_goals
            go_enter Tryz.func68,Tryz.ntmps68
            go_wp2_with fail
            refine (hst.out _).mono ?_
            rintro e1 w2 ⟨rfl,rfl⟩
            rw [hsB]
            go_wp2_with fail
            refine (hle.out _).mono ?_
            rintro e1 w2 ⟨rfl,rfl⟩
            rw [hlt]
            go_wp2_with fail
            refine (hU.out _).mono ?_
            rintro e1 w2 ⟨rfl,rfl⟩
            go_wp2_with fail
            have q0:=bf.out.cell (i:=0) rfl
            have q1:=bf.out.cell (i:=1) rfl
            have q2:=bf.out.cell (i:=2) rfl
            have q3:=bf.out.cell (i:=3) rfl
            exact bodyPost_ret (v:=.tuple #[.agg #[.int .i64 4,.string ⟨#[]⟩,.slice none 0 0,.string (M5.bs p.1)],.int .i64 ((s.size - p.2.length : Nat) : Int)]) (by simp [results,Tryz.results68,go_sem,q0,q1,q2,q3]) rfl hfin2.out
        · have h3s : s.size < 3:=by omega
          go_enter Tryz.func68,Tryz.ntmps68
          go_wp2_with fail
          refine (hst.out _).mono ?_
          rintro e1 w2 ⟨rfl,rfl⟩
          rw [hsB]
          go_wp2_with fail
          refine (hle.out _).mono ?_
          rintro e1 w2 ⟨rfl,rfl⟩
          rw [hlt]
          go_wp2_with fail
          refine (hU.out _).mono ?_
          rintro e1 w2 ⟨rfl,rfl⟩
          go_wp2_with fail
          have q0:=bf.out.cell (i:=0) rfl
          have q1:=bf.out.cell (i:=1) rfl
          have q2:=bf.out.cell (i:=2) rfl
          have q3:=bf.out.cell (i:=3) rfl
          exact bodyPost_ret (v:=.tuple #[.agg #[.int .i64 4,.string ⟨#[]⟩,.slice none 0 0,.string (M5.bs p.1)],.int .i64 ((s.size - p.2.length : Nat) : Int)]) (by simp [results,Tryz.results68,go_sem,q0,q1,q2,q3]) rfl hfin2.out
        · have hle2 : Hid (∀ w,Calls Tryz.prog 84 #[.int .u8 (s[2].toNat : Int)] w (BoolPost false w)):=Lib.hid (fun w => by rw [← hl2]; exact ref05letter s[2] w)
          rcases hsz with h3s | ⟨h3s,h4s⟩ | h4s
          · exact absurd h2s (by omega)
          all_goals
            go_enter Tryz.func68,Tryz.ntmps68
            go_wp2_with fail
            refine (hst.out _).mono ?_
            rintro e1 w2 ⟨rfl,rfl⟩
            rw [hsB]
            go_wp2_with fail
            refine (hle.out _).mono ?_
            rintro e1 w2 ⟨rfl,rfl⟩
            rw [hlt]
            go_wp2_with fail
            refine (hle2.out _).mono ?_
            rintro e1 w2 ⟨rfl,rfl⟩
            go_wp2_with fail
            refine (hU.out _).mono ?_
            rintro e1 w2 ⟨rfl,rfl⟩
            go_wp2_with fail
            have q0:=bf.out.cell (i:=0) rfl
            have q1:=bf.out.cell (i:=1) rfl
            have q2:=bf.out.cell (i:=2) rfl
            have q3:=bf.out.cell (i:=3) rfl
            exact bodyPost_ret (v:=.tuple #[.agg #[.int .i64 4,.string ⟨#[]⟩,.slice none 0 0,.string (M5.bs p.1)],.int .i64 ((s.size - p.2.length : Nat) : Int)]) (by simp [results,Tryz.results68,go_sem,q0,q1,q2,q3]) rfl hfin2.out
    · rw [hp3,if_pos rfl] at hc
      have h3s : 3 ≤ s.size:=pre_len hp3
      have h3e:=cutE s [60,47,62] 3 rfl true hp3
      have hz : Hid (TokPost (M5.tagR s.data.toList).1 (s.size - (M5.tagR s.data.toList).2.length) wo (.returned (.tuple #[.agg #[.int .i64 0,.string ⟨#[]⟩,.slice none 0 0,.string ⟨#[]⟩],.int .i64 3])) (wo.alloc (.cells #[.int .i64 0,.string ⟨#[]⟩,.slice none 0 0,.string ⟨#[]⟩] 87))) :=
        Lib.hid (refPost_nil' hc (by rw [List.length_drop,hsl]; omega) hb0.out)
      have z0:=bx0.cell (i:=0) rfl
      have z1:=bx0.cell (i:=1) rfl
      have z2:=bx0.cell (i:=2) rfl
      have z3:=bx0.cell (i:=3) rfl
      have fz:=bx0.free
      generalize TokPost (M5.tagR s.data.toList).1 (s.size - (M5.tagR s.data.toList).2.length) wo = Post at *
      replace hl:=Lib.hid hl
      replace hc:=Lib.hid hc
      rcases Nat.lt_or_ge s.size 4 with h4s | h4s
      all_goals
        go_enter Tryz.func68,Tryz.ntmps68
        go_wp2_with fail
        refine (hst.out _).mono ?_
        rintro e1 w2 ⟨rfl,rfl⟩
        rw [hsB]
        go_wp2_with fail
        refine (hle.out _).mono ?_
        rintro e1 w2 ⟨rfl,rfl⟩
        rw [hlt]
        go_wp2_with fail
        exact bodyPost_ret (v:=.tuple #[.agg #[.int .i64 0,.string ⟨#[]⟩,.slice none 0 0,.string ⟨#[]⟩],.int .i64 3]) (by simp [results,Tryz.results68,go_sem,z0,z1,z2,z3]) rfl hz.out
  · rw [hp4,if_pos rfl] at hc
    have h4s : 4 ≤ s.size:=pre_len hp4
    have h4e:=cutE s [60,33,45,45] 4 rfl true hp4
    have hU:=fun w => ref05upto s ⟨#[45,45,62]⟩ 4 w hs (by decide) (by decide) h4s
    have hfin:=fun (w' : World) (hb : Below wo.heap.size wo w') => refPost_nil' (L:=s.size) (w:=wo) (w':=w') hc rfl hb
    generalize TokPost (M5.tagR s.data.toList).1 (s.size - (M5.tagR s.data.toList).2.length) wo = Post at *
    generalize M5.uptoR [45,45,62] (s.data.toList.drop 4) = p at *
    have bf:=Lib.hid (Box.new wo 87 [.int .i64 4,.string ⟨#[]⟩,.slice none 0 0,.string (M5.bs p.1)])
    have hfin2:=Lib.hid (hfin _ ((Below.refl _ wo).alloc (Nat.le_refl _) (.cells #[.int .i64 4,.string ⟨#[]⟩,.slice none 0 0,.string (M5.bs p.1)] 87)))
    clear hfin
    replace hl:=Lib.hid hl
    replace hc:=Lib.hid hc
    replace hU:=Lib.hid hU
    have z0:=bx0.cell (i:=0) rfl
    have z1:=bx0.cell (i:=1) rfl
    have z2:=bx0.cell (i:=2) rfl
    have z3:=bx0.cell (i:=3) rfl
    have fz:=bx0.free
    go_enter Tryz.func68,Tryz.ntmps68
    go_wp2_with fail
    refine (hst.out _).mono ?_
    rintro e1 w2 ⟨rfl,rfl⟩
    rw [hsB]
    go_wp2_with fail
    refine (hle.out _).mono ?_
    rintro e1 w2 ⟨rfl,rfl⟩
    rw [hlt]
    go_wp2_with fail
    refine (hU.out _).mono ?_
    rintro e1 w2 ⟨rfl,rfl⟩
    go_wp2_with fail
    have q0:=bf.out.cell (i:=0) rfl
    have q1:=bf.out.cell (i:=1) rfl
    have q2:=bf.out.cell (i:=2) rfl
    have q3:=bf.out.cell (i:=3) rfl
    exact bodyPost_ret (v:=.tuple #[.agg #[.int .i64 4,.string ⟨#[]⟩,.slice none 0 0,.string (M5.bs p.1)],.int .i64 ((s.size - p.2.length : Nat) : Int)]) (by simp [results,Tryz.results68,go_sem,q0,q1,q2,q3]) rfl hfin2.out
end Go.Proofs.YteefodibpjgicaaGreat
