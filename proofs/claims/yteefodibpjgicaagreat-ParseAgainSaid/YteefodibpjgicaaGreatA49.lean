/- Texts joined: Ref05j, Ref05k, Law05. -/
import Derived.Deep.QuietTactic
import Derived.Test.YteefodibpjgicaaGreatA10
import Derived.Test.YteefodibpjgicaaGreatA12
import Derived.Test.YteefodibpjgicaaGreatA24
import Derived.Test.YteefodibpjgicaaGreatA39
import Derived.Test.YteefodibpjgicaaGreatA47
import Derived.Test.YteefodibpjgicaaGreatA48
namespace Go.Proofs.YteefodibpjgicaaGreat
open Go.RowKit
def pieceL (L : List UInt8) (a i : Nat) : List UInt8:=(L.drop a).take (i - a)
theorem piece_snoc (s : ByteArray) (a i : Nat) (ha : a ≤ i) (hi : i < s.size) : pieceL s.data.toList a (i + 1) = pieceL s.data.toList a i ++ [s[i]]:=by
  unfold pieceL
  have h : i - a < (s.data.toList.drop a).length:=by rw [List.length_drop]; show i - a < s.size - a; omega
  rw [show i + 1 - a = (i - a) + 1 by omega,List.take_succ_eq_append_getElem h,List.getElem_drop]
  congr 2
  have hi2 : i < s.data.toList.length:=hi
  have e : ∀ j (hj : j < s.data.toList.length),j = i → s.data.toList[j] = s.data.toList[i]:=fun j hj h => by subst h; rfl
  exact e _ _ (by omega)
theorem piece_nil (L : List UInt8) (a : Nat) : pieceL L a a = []:=by unfold pieceL; rw [Nat.sub_self]; rfl
theorem piece_cut (s : ByteArray) (a i : Nat) : s.extract a i = M5.bs (pieceL s.data.toList a i):=bs_cut s a i
theorem charsT_ne {p : List UInt8} (h : p ≠ []) : M5.charsT p = [⟨3,⟨#[]⟩,[],M5.bs (M2.decode p)⟩]:=by
  unfold M5.charsT
  rw [if_neg]
  rw [Bool.not_eq_true,List.isEmpty_eq_false_iff]
  exact h
theorem piece_ne (s : ByteArray) (a i : Nat) (h : a < i) (hi : i ≤ s.size) : pieceL s.data.toList a i ≠ []:=fun e => by
  have:=congrArg List.length e
  unfold pieceL at this
  rw [List.length_take,List.length_drop,List.length_nil] at this
  have h2 : s.data.toList.length = s.size:=rfl
  omega
theorem tok_one (k : Int) (nm : ByteArray) (a : Option Addr) (n c : Nat) (tx : ByteArray) : ∀ u ∈ [Value.int .i64 k,.string nm,.slice a n c,.string tx],u.oneCell' = true:=by
  intro u hu
  simp only [List.mem_cons,List.not_mem_nil,or_false] at hu
  rcases hu with rfl | rfl | rfl | rfl <;> rfl
theorem fold_len5 (l : List UInt8) : (M1.fold l).length = l.length:=by unfold M1.fold; rw [List.length_map]
theorem bs_size5 (l : List UInt8) : (M5.bs l).size = l.length:=by
  show (M5.bs l).data.size = _
  rw [← Array.length_toList,M5.bs_data]
theorem begin_name_le5 (l : List UInt8) : (M5.beginR l).1.name.size ≤ l.length:=by
  unfold M5.beginR
  split
  · show (M5.bs (M1.fold ((l.drop 1).takeWhile M5.nameB))).size ≤ _
    rw [bs_size5,fold_len5]
    have h1:=(List.takeWhile_prefix (l:=l.drop 1) M5.nameB).length_le
    have h2 : (l.drop 1).length = l.length - 1:=List.length_drop
    omega
  · exact Nat.zero_le _
theorem tag_name_le5 (l : List UInt8) : (M5.tagR l).1.name.size ≤ l.length:=by
  unfold M5.tagR
  split
  · split
    · rename_i c d r _
      split
      · exact begin_name_le5 _
      · split
        · exact Nat.zero_le _
        · split
          · exact Nat.zero_le _
          · split
            · split
              · show (M5.bs (M1.fold (r.takeWhile M5.nameB))).size ≤ _
                rw [bs_size5,fold_len5]
                have h1:=(List.takeWhile_prefix (l:=r) M5.nameB).length_le
                simp only [List.length_cons]
                omega
              · exact Nat.zero_le _
            · exact Nat.zero_le _
    · exact Nat.zero_le _
  · exact Nat.zero_le _
theorem own_new5 {w w0 : World} {B n : Nat} {v va : Value} {l : List Tok} {xs : List Value} (h : w.ownsRow w0.heap.size 43 2 va n xs) (hl : Toks w0 B v l) (hB : B ≤ w0.heap.size) : Row (fun b => B ≤ b ∧ b < w.heap.size ∧ v.ownBlock ≠ some b) w 2 va n xs :=
  Row.own h (fun g hg => by
    have h1:=h.lt g hg
    exact ⟨by omega,h1.2,fun e => by have:=(hl.lt e).2; omega⟩)
theorem cellB5 {B : Nat} {w w' : World} (hb : Below B w w') {b o : Nat} {v : Value} (h : w.cell? ⟨b,o,none⟩ = some v) (hlt : b < B) : w'.cell? ⟨b,o,none⟩ = some v:=(hb.cell (p:=⟨b,o,none⟩) hlt).trans h
def RToksPost (l : List Tok) (w : World) (e : Ending) (w' : World) : Prop:=∃ v,e = .returned v ∧ Toks w' w.heap.size v l ∧ Below w.heap.size w w'
set_option maxHeartbeats 8000000 in
set_option maxRecDepth 100000 in
theorem ref05Tokens (s : ByteArray) (w : World) (hs : s.size ≤ 1073741824) : Calls Tryz.prog 43 #[.string s] w (RToksPost (M5.tokens s.data.toList) w):=by
  obtain ⟨wo,rfl⟩ : ∃ wo : World,wo = w:=⟨_,rfl⟩
  obtain ⟨T,hT⟩ : ∃ T,Hid (T = M5.tokens s.data.toList):=⟨_,rfl⟩
  rw [← hT.out]
  have hsl : s.data.toList.length = s.size:=rfl
  have hD:=Lib.hid (fun (a i : Nat) (w : World) => ref02Decode (s.extract a i) w (by rw [ByteArray.size_extract]; omega))
  go_enter Tryz.func43,Tryz.ntmps43
  go_wp2_with fail
  go_loopw [3,4,5] (fun u3 u4 u5 wr => ∃ (a i : Nat) (acc : List Tok),u4 = .int .i64 (a : Int) ∧ u5 = .int .i64 (i : Int) ∧ a ≤ i ∧ i ≤ s.size ∧ acc.length ≤ a ∧ Toks wr wo.heap.size u3 acc ∧ Below wo.heap.size wo wr ∧ Hid (T = acc ++ M5.toksR (pieceL s.data.toList a i) (s.data.toList.drop i))) (fun _ _ u5 _ => s.size - (intOf u5).toNat)
  case atStart => exact ⟨0,0,[],rfl,rfl,Nat.le_refl _,Nat.zero_le _,Nat.le_refl _,Toks.nil _ _,Below.refl _ _,by show _ = _; rw [hT.out,piece_nil,M5.tokens_eq]; rfl⟩
  case round =>
    obtain ⟨a,i,acc,rfl,rfl,hai,his,hal,hl,hbw,hv⟩:=hrel
    by_cases hlt : i < s.size
    · have hS:=Lib.hid (fun w => ref05Starts (s.extract i s.size) w (by rw [ByteArray.size_extract]; omega))
      have hxd : (s.extract i s.size).data.toList = s.data.toList.drop i:=by rw [Lib.extract_data,List.take_of_length_le (by rw [List.length_drop]; exact Nat.le_refl _)]
      rw [hxd] at hS
      cases hsB : M5.startsB (s.data.toList.drop i)
      · have hv2 : Hid (T = acc ++ M5.toksR (pieceL s.data.toList a (i + 1)) (s.data.toList.drop (i + 1))):=by
          show _ = _
          rw [hv.out]
          rw [drop_cons s i hlt] at hsB ⊢
          rw [M5.toksR_text _ _ _ hsB,piece_snoc s a i hai hlt]
        replace hxd:=Lib.hid hxd
        go_wp2_with fail
        refine (hS.out _).mono ?_
        rintro e1 w2 ⟨rfl,rfl⟩
        rw [hsB]
        go_wp2_with fail
        go_roundw
        case rel => exact ⟨a,i + 1,acc,rfl,by go_num,by omega,by omega,hal,hl,hbw,hv2⟩
        case measure => exact rf_meas hlt
      · have hTg:=Lib.hid (fun w => ref05Tag (s.extract i s.size) w (by rw [ByteArray.size_extract]; omega))
        rw [hxd] at hTg
        have hxz : (s.extract i s.size).size = s.size - i:=by rw [ByteArray.size_extract]; omega
        rw [hxz] at hTg
        obtain ⟨a3,c3,rfl⟩:=hl.slice
        replace hxd:=Lib.hid hxd
        go_upto_if 25 with (go_at_call 66; refine (hS.out _).mono ?_; rintro e1 w2 ⟨rfl,rfl⟩; rw [hsB])
        go_cut [3] from 11 to 88 (fun s3 wx => Toks wx wo.heap.size s3 (acc ++ M5.charsT (pieceL s.data.toList a i)) ∧ Below wo.heap.size wo wx)
        case first =>
          by_cases hgt : a < i
          · have hdec:=hD.out a i
            rw [show (s.extract a i).data.toList = pieceL s.data.toList a i from Lib.extract_data _ _ _] at hdec
            have hch:=charsT_ne (piece_ne s a i hgt his)
            obtain ⟨dv,hdv⟩ : ∃ x,Hid (x = M5.bs (M2.decode (pieceL s.data.toList a i))):=⟨_,rfl⟩
            have hdec2 : Hid (∀ w,Calls Tryz.prog 67 #[.string (s.extract a i)] w (fun e w' => e = .returned (.string dv) ∧ Below w.heap.size w w')):=Lib.hid (fun w => (hdec w).mono (by
              rintro e w' ⟨rfl,hb⟩
              exact ⟨by rw [hdv.out]; rfl,hb⟩))
            rw [← hdv.out] at hch
            clear hdec hTg
            replace hch:=Lib.hid hch
            have hgti : decide ((a : Int) < (i : Int)) = true:=decide_eq_true (by omega)
            go_wp2_with fail
            refine (hdec2.out _).mono ?_
            rintro e1 w2 ⟨rfl,hb2⟩
            obtain ⟨xs,hown,hrep⟩:=hl.below hb2
            have hbw2:=Lib.hid (bt hbw hb2)
            clear hb2
            go_wp2_with (at_builtin; refine wpList_appOne w2 [.int .i64 3,.string ⟨#[]⟩,.slice none 0 0,.string dv] rfl _ _ 61 87 rfl wo.heap.size 4 Tryz.underlying61 infoT5 rfl (by omega) _ acc.length xs rfl hown w2.heap.size rfl (by rfl) rfl (tok_one _ _ _ _ _ _) (by omega) (by omega) hbw2.out.size ?_; intro gg cap' w5 hown5 hgrow hat5)
            go_meet
            case rel => exact ⟨by rw [hch.out]; exact Toks.snoc (t:=⟨3,⟨#[]⟩,[],dv⟩) hrep (Row.nil _ _ _) hgrow hat5 hown5,hbw2.out.grown hgrow hbw2.out.size (fun k hk => (hown.lt k hk).1)⟩
          · obtain rfl : a = i:=by omega
            have hgti : decide ((a : Int) < (a : Int)) = false:=decide_eq_false (by omega)
            go_wp2_with fail
            go_meet
            case rel => exact ⟨by rw [piece_nil]; show Toks wr wo.heap.size _ (acc ++ []); rw [List.append_nil]; exact hl,hbw⟩
        case rest =>
          obtain ⟨hl1,hb1⟩:=hcut
          clear hl hbw hS
          obtain ⟨acc1,hacc1⟩ : ∃ x,Hid (x = acc ++ M5.charsT (pieceL s.data.toList a i)):=⟨_,rfl⟩
          rw [← hacc1.out] at hl1
          have hal1 : acc1.length ≤ i:=by
            rw [hacc1.out,List.length_append]
            by_cases hgt : a < i
            · rw [charsT_ne (piece_ne s a i hgt his)]
              show acc.length + 1 ≤ i
              omega
            · obtain rfl : a = i:=by omega
              rw [piece_nil]
              exact hal
          obtain ⟨a4,c4,rfl⟩:=hl1.slice
          have htl:=M5.tag_lt (s.data.toList.drop i) hsB
          have hat:=(M5.tag_suf (s.data.toList.drop i)).at_
          have hdl : (s.data.toList.drop i).length = s.size - i:=List.length_drop
          rw [hdl] at htl hat
          rw [List.drop_drop] at hat
          have hraw:=M5.toks_tag (s.data.toList.drop i) hsB
          have hnml:=tag_name_le5 (s.data.toList.drop i)
          rw [hdl] at hnml
          obtain ⟨n,hn⟩ : ∃ n,n = s.size - i - (M5.tagR (s.data.toList.drop i)).2.length:=⟨_,rfl⟩
          have hv1 : Hid (T = acc1 ++ M5.toksR [] (s.data.toList.drop i)):=by
            show _ = _
            rw [hv.out,hacc1.out,M5.toksR_tag _ _ hsB,M5.toksR_tag [] _ hsB,List.append_assoc]
            rfl
          rw [← hn] at hTg hat
          have hnp : 0 < n:=by omega
          have hnle : i + n ≤ s.size:=by omega
          rw [← hat] at hraw
          generalize (M5.tagR (s.data.toList.drop i)).1 = t at *
          clear htl hat
          replace hn:=Lib.hid hn
          replace hraw:=Lib.hid hraw
          go_upto_if 47 with (go_at_call 68; refine (hTg.out _).mono ?_; rintro e1 w2 ⟨va,rfl,hown2,hb2⟩; obtain ⟨a5,c5,rfl⟩:=own_slice5 hown2)
          have bt3:=Box.new w2 87 [.int .i64 t.kind,.string t.name,.slice a5 t.attrs.length c5,.string t.text]
          have hb23:=(Below.refl w2.heap.size w2).alloc (Nat.le_refl _) (.cells #[.int .i64 t.kind,.string t.name,.slice a5 t.attrs.length c5,.string t.text] 87)
          have hl3:=(hl1.below hb2).below hb23
          have hrow3:=own_new5 (hown2.alloc (.cells #[.int .i64 t.kind,.string t.name,.slice a5 t.attrs.length c5,.string t.text] 87)) hl1 hb1.size
          have hbw3:=Lib.hid (bt (bt hb1 hb2) hb23)
          have hbt : (Value.slice a4 acc1.length c4).ownBlock ≠ some w2.heap.size:=fun e => by have:=(hl1.lt e).2; have:=hb2.size; omega
          have hj2 : Hid (s.data.toList.drop (i + n) = s.data.toList.drop (i + n)):=rfl
          have hws2 : wo.heap.size ≤ w2.heap.size:=Nat.le_trans hb1.size hb2.size
          generalize w2.alloc (.cells #[.int .i64 t.kind,.string t.name,.slice a5 t.attrs.length c5,.string t.text] 87) = w3 at *
          clear hown2 hb2 hb23 hl1 hb1 hTg hj2
          go_cut [3,5] from 11 to 88 (fun s3 s5 wx => s5 = .int .i64 ((i + n : Nat) : Int) ∧ Toks wx wo.heap.size s3 (acc1 ++ M5.keepT t) ∧ Box wx w2.heap.size 87 [.int .i64 t.kind,.string t.name,.slice a5 t.attrs.length c5,.string t.text] ∧ Below wo.heap.size wo wx)
          case first =>
            have u0:=bt3.cell (i:=0) rfl
            have u1:=bt3.cell (i:=1) rfl
            have u2:=bt3.cell (i:=2) rfl
            have u3:=bt3.cell (i:=3) rfl
            by_cases hk : t.kind = 0
            · have hk' : (t.kind != 0) = false:=by rw [hk]; rfl
              have hkeep : M5.keepT t = []:=by unfold M5.keepT; rw [if_neg (by simpa using hk)]
              replace hk:=Lib.hid hk
              go_wp2_with fail
              go_meet
              case rel => exact ⟨by rw [Int.natCast_add],by rw [hkeep,List.append_nil]; exact hl3,bt3,hbw3.out⟩
            · have hk' : (t.kind != 0) = true:=bne_iff_ne.2 hk
              have hkeep : M5.keepT t = [t]:=by unfold M5.keepT; rw [if_pos hk]
              replace hk:=Lib.hid hk
              obtain ⟨xs,hown,hrep⟩:=hl3
              have hbw3s:=hbw3.out.size
              go_wp2_with (at_builtin; refine wpList_appOne w3 [.int .i64 t.kind,.string t.name,.slice a5 t.attrs.length c5,.string t.text] rfl _ _ 61 87 rfl wo.heap.size 4 Tryz.underlying61 infoT5 rfl (by omega) _ acc1.length xs rfl hown w3.heap.size rfl (by rfl) rfl (tok_one _ _ _ _ _ _) (by omega) (by omega) hbw3s ?_; intro gg cap' w5 hown5 hgrow hat5)
              go_meet
              case rel => exact ⟨by rw [Int.natCast_add],by rw [hkeep]; exact Toks.snoc (t:=t) hrep hrow3 hgrow hat5 hown5,bt3.keep (hgrow.block _ bt3.lt (Ne.symm hbt)),hbw3.out.grown hgrow hbw3s (fun k hk => (hown.lt k hk).1)⟩
          case rest =>
            clear hl3 hrow3 bt3 hbw3 hbt
            obtain ⟨rfl,hl4,bt4,hb4⟩:=hcut
            obtain ⟨acc2,hacc2⟩ : ∃ x,Hid (x = acc1 ++ M5.keepT t):=⟨_,rfl⟩
            rw [← hacc2.out] at hl4
            have hal2 : acc2.length ≤ i + 1:=by
              rw [hacc2.out,List.length_append]
              have : (M5.keepT t).length ≤ 1:=by unfold M5.keepT; split <;> simp
              omega
            have hv2 : Hid (T = acc2 ++ ((M5.rawT t (s.data.toList.drop (i + n))).1 ++ M5.toksR [] (M5.rawT t (s.data.toList.drop (i + n))).2)):=by
              show _ = _
              rw [hv1.out,hraw.out,hacc2.out,List.append_assoc]
              rfl
            obtain ⟨a6,c6,rfl⟩:=hl4.slice
            have hij : i + 1 ≤ i + n:=by omega
            replace hraw:=Lib.hid hraw
            clear hraw hn
            generalize i + n = j at *
            have hRaw:=Lib.hid (fun w => ref03Raw t.name w)
            have u0:=bt4.cell (i:=0) rfl
            have u1:=bt4.cell (i:=1) rfl
            by_cases hk1 : t.kind = 1
            · have ek : (t.kind == 1) = true:=beq_iff_eq.2 hk1
              cases hrw : M3.rawB t.name.data.toList
              · have hrt:=M5.rawT_not t (s.data.toList.drop j) (fun h => by rw [hrw] at h; cases h.2)
                rw [hrt] at hv2
                replace hrt:=Lib.hid hrt
                replace hk1:=Lib.hid hk1
                go_wp2_with fail
                refine (hRaw.out _).mono ?_
                rintro e1 w5 ⟨rfl,rfl⟩
                rw [hrw]
                go_wp2_with fail
                go_roundw
                case rel => exact ⟨j,j,acc2,rfl,rfl,Nat.le_refl _,hnle,by omega,hl4,hb4,by show _ = _; rw [hv2.out,piece_nil]; rfl⟩
                case measure => simp [intOf]; omega
              · have hrt:=M5.rawT_raw t (s.data.toList.drop j) ⟨hk1,hrw⟩
                replace hk1:=Lib.hid hk1
                have hEs:=Lib.hid (fun w => ref05Ends (s.extract j s.size) t.name w (by rw [ByteArray.size_extract]; omega) (by omega))
                have hxj : (s.extract j s.size).data.toList = s.data.toList.drop j:=by rw [Lib.extract_data,List.take_of_length_le (by rw [List.length_drop]; exact Nat.le_refl _)]
                rw [hxj] at hEs
                have hdj : (s.data.toList.drop j).length = s.size - j:=List.length_drop
                obtain ⟨E,hE⟩ : ∃ E,Hid (E = M5.endN t.name.data.toList (s.data.toList.drop j)):=⟨_,rfl⟩
                have hEle : E ≤ s.size - j:=by rw [hE.out,← hdj]; exact M5.endN_le _ _
                rw [← hE.out] at hrt
                have hEv : Hid (E = match M5.endsL ([60,47] ++ t.name.data.toList) (s.data.toList.drop j) with | some k => k | none => s.size - j):=by
                  show _ = _
                  rw [hE.out,← hdj]
                  unfold M5.endN
                  try (cases M5.endsL ([60,47] ++ t.name.data.toList) (s.data.toList.drop j) <;> rfl)
                go_upto_region 16 with (go_at_call 64; refine (hRaw.out _).mono ?_; rintro e1 w5 ⟨rfl,rfl⟩; rw [hrw])
                obtain ⟨O,hO⟩ : ∃ O,Hid (O = M5.endsL ([60,47] ++ t.name.data.toList) (s.data.toList.drop j)):=⟨M5.endsL ([60,47] ++ t.name.data.toList) (s.data.toList.drop j),Lib.hid rfl⟩
                rw [← hO.out] at hEs hEv
                clear hRaw hE hO
                have b1 : (0 : Int) ≤ (j : Int):=by omega
                have b2 : (j : Int) ≤ (s.size : Int):=by omega
                refine wp_region_known (n:=7) ([some (Value.string s),some (Value.int IntKind.i64 (j : Int)),some (.string (s.extract j s.size)),some (.pointer (some ⟨w2.heap.size,1,none⟩)),some (.string t.name),some (.int .i64 (endV O)),some (.int .i64 (endV O))] : List (Option Value)) (fun tt => ⟨#[Value.string s,undef,Value.slice none 0 0,Value.slice a6 acc2.length c6,Value.int IntKind.i64 (a : Int),Value.int IntKind.i64 (j : Int),Value.bool true,Value.pointer (some ⟨w2.heap.size,0,none⟩),Value.int IntKind.i64 (n : Int),Value.bool true,tt 6,u11,u12,u13,u14,u15,u16,u17,u18,u19,u20,u21,u22,u23,u24,u25,u26,u27,u28,u29,u30,u31,u32,u33,u34,u35,u36,u37,u38,u39,u40,u41,u42,u43,u44,u45,u46,u47,u48,u49,u50,u51,Value.pointer (some ⟨w2.heap.size,1,none⟩),Value.string t.name,Value.bool true,Value.pointer (some ⟨w2.heap.size,0,none⟩),Value.int IntKind.i64 t.kind,Value.bool true,Value.bool true,Value.bool true,Value.bool true,tt 0,tt 1,tt 2,tt 3,tt 4,tt 5,u67,u68,u69,u70,u71,u72,u73,u74,u75,u76,u77,u78,u79,u80,u81,u82,u83,u84,u85,u86,u87,u88,undef,undef,undef,undef,undef,undef,undef,undef,undef,undef,undef,undef,undef],[]⟩) (fun f tt W => Below w5.heap.size w5 W) (fun j => match j with | 0 => u61 | 1 => u62 | 2 => u63 | 3 => u64 | 4 => u65 | 5 => u66 | 6 => u10 | _ => undef) (by kernel_rfl) (by rfl) (by rfl) (by kernel_rfl) rfl ?i0 ?step ?fin
                case i0 =>
                  exact (Below.refl _ w5).drew
                case step =>
                  intro j0 hj0 f tt W hfi hwt hk2 hI
                  have s0:=cellB5 hI u1 bt4.lt
                  obtain rfl | rfl | rfl | rfl | rfl | rfl | rfl : j0 = 0 ∨ j0 = 1 ∨ j0 = 2 ∨ j0 = 3 ∨ j0 = 4 ∨ j0 = 5 ∨ j0 = 6:=by omega
                  · -- operation 0
                    replace hI:=Lib.hid hI
                    replace hk2:=Lib.hid hk2
                    clear hwt
                    refine wpOp_step rfl (fun K hK => ?_)
                    go_simp
                    exact hK _ _ ⟨_,by simp [updT],hk2.out.at_ rfl,hI.out⟩
                  · -- operation 1
                    replace hI:=Lib.hid hI
                    replace hk2:=Lib.hid hk2
                    clear hwt
                    refine wpOp_step rfl (fun K hK => ?_)
                    go_simp
                    exact hK _ _ ⟨_,by simp [updT],hk2.out.at_ rfl,hI.out⟩
                  · -- operation 2
                    have e0 : tt 0 = Value.string s:=hk2 0 _ (hwt 0 (by kernel_rfl)) rfl
                    have e1 : tt 1 = Value.int IntKind.i64 (j : Int):=hk2 1 _ (hwt 1 (by kernel_rfl)) rfl
                    replace hI:=Lib.hid hI
                    replace hk2:=Lib.hid hk2
                    clear hwt
                    refine wpOp_step rfl (fun K hK => ?_)
                    go_simp
                    exact hK _ _ ⟨_,by simp [updT,e0,e1],hk2.out.at_ rfl,hI.out⟩
                  · -- operation 3
                    replace hI:=Lib.hid hI
                    replace hk2:=Lib.hid hk2
                    clear hwt
                    refine wpOp_step rfl (fun K hK => ?_)
                    go_simp
                    exact hK _ _ ⟨_,by simp [updT],hk2.out.at_ rfl,hI.out⟩
                  · -- operation 4
                    have e3 : tt 3 = .pointer (some ⟨w2.heap.size,1,none⟩):=hk2 3 _ (hwt 3 (by kernel_rfl)) rfl
                    replace hI:=Lib.hid hI
                    replace hk2:=Lib.hid hk2
                    clear hwt
                    refine wpOp_step rfl (fun K hK => ?_)
                    go_simp
                    exact hK _ _ ⟨_,by simp [updT,e3],hk2.out.at_ rfl,hI.out⟩
                  · -- operation 5
                    have e2 : tt 2 = .string (s.extract j s.size):=hk2 2 _ (hwt 2 (by kernel_rfl)) rfl
                    have e4 : tt 4 = .string t.name:=hk2 4 _ (hwt 4 (by kernel_rfl)) rfl
                    have hC:=Lib.hid (hEs.out W)
                    replace hk2:=Lib.hid hk2
                    replace hI:=Lib.hid hI
                    clear hwt
                    refine wpOp_step rfl (fun K hK => ?_)
                    go_simp
                    refine hC.out.mono ?_
                    rintro e w6 ⟨rfl,hb6⟩
                    exact hK _ _ ⟨_,by simp [updT,e2,e4],hk2.out.at_ rfl,bt hI.out hb6⟩
                  · -- operation 6
                    have e5 : tt 5 = .int .i64 (endV O):=hk2 5 _ (hwt 5 (by kernel_rfl)) rfl
                    replace hI:=Lib.hid hI
                    replace hk2:=Lib.hid hk2
                    clear hwt
                    refine wpOp_step rfl (fun K hK => ?_)
                    go_simp
                    exact hK _ _ ⟨_,by simp [updT,e5],hk2.out.at_ rfl,hI.out⟩
                case fin =>
                  intro f tt W hall hk2 hI
                  have hI2:=hI
                  have e10:=hk2 6 _ (hall 6 (by omega)) rfl
                  clear hk2 hall
                  dsimp only
                  rw [e10]
                  rw [hrt,List.drop_drop] at hv2
                  have hlW:=hl4.below hI2
                  have hbW:=Lib.hid (bt hb4 hI2)
                  have hbWs:=hbW.out.size
                  obtain ⟨Wo,rfl⟩ : ∃ X : World,X = W:=⟨_,rfl⟩
                  go_upto_if 68 with fail
                  go_cut [10] from 11 to 88 (fun s10 wx => s10 = .int .i64 (E : Int) ∧ Wo = wx)
                  case first =>
                    cases hO2 : O with
                    | none =>
                      rw [hO2] at hEv
                      have hEe : (s.size : Int) - (j : Int) = (E : Int):=by rw [hEv.out]; show _ = ((s.size - j : Nat) : Int); omega
                      have hev : endV none = -1:=rfl
                      go_wp2_with fail
                      go_meet
                      case rel => exact ⟨rfl,rfl⟩
                    | some k =>
                      rw [hO2] at hEv
                      have hEe : E = k:=hEv.out
                      have hev : endV (some k) = (k : Int):=rfl
                      subst hEe
                      have hneg : decide ((E : Int) < 0) = false:=decide_eq_false (by omega)
                      go_wp2_with fail
                      go_meet
                      case rel => exact ⟨rfl,rfl⟩
                  case rest =>
                    obtain ⟨rfl,rfl⟩:=hcut
                    by_cases hE0 : E = 0
                    · subst hE0
                      go_wp2_with fail
                      go_roundw
                      case rel => exact ⟨j,j,acc2,rfl,rfl,Nat.le_refl _,hnle,by omega,hlW,hbW.out,by show _ = _; rw [hv2.out,piece_nil]; rfl⟩
                      case measure => simp [intOf]; omega
                    · have hgt : decide ((0 : Int) < (E : Int)) = true:=decide_eq_true (by omega)
                      have hkc : Hid (M5.keepT (M5.contC E (s.data.toList.drop j)) = [⟨3,⟨#[]⟩,[],s.extract j (j + E)⟩]):=by
                        show _ = _
                        rw [piece_cut,M5.contC,if_neg hE0]
                        unfold pieceL
                        rw [Nat.add_sub_cancel_left]
                        rfl
                      obtain ⟨xs,hown,hrep⟩:=hlW
                      go_wp2_with (at_builtin; refine wpList_appOne Wo [.int .i64 3,.string ⟨#[]⟩,.slice none 0 0,.string (s.extract j (j + E))] rfl _ _ 61 87 rfl wo.heap.size 4 Tryz.underlying61 infoT5 rfl (by omega) _ acc2.length xs rfl hown Wo.heap.size rfl (by rfl) rfl (tok_one _ _ _ _ _ _) (by omega) (by omega) hbWs ?_; intro gg cap' w7 hown7 hgrow hat7)
                      go_roundw
                      case rel => exact ⟨j + E,j + E,acc2 ++ [⟨3,⟨#[]⟩,[],s.extract j (j + E)⟩],by rw [Int.natCast_add],by rw [Int.natCast_add],Nat.le_refl _,by omega,by rw [List.length_append]; show acc2.length + 1 ≤ j + E; omega,Toks.snoc (t:=⟨3,⟨#[]⟩,[],s.extract j (j + E)⟩) hrep (Row.nil _ _ _) hgrow hat7 hown7,hbW.out.grown hgrow hbWs (fun k hk => (hown.lt k hk).1),by show _ = _; rw [hv2.out,piece_nil,hkc.out,List.append_assoc]⟩
                      case measure => simp [intOf]; omega
            · have ek : (t.kind == 1) = false:=beq_eq_false_iff_ne.2 hk1
              have hrt:=M5.rawT_not t (s.data.toList.drop j) (fun h => hk1 h.1)
              rw [hrt] at hv2
              replace hrt:=Lib.hid hrt
              replace hk1:=Lib.hid hk1
              go_wp2_with fail
              refine (hRaw.out _).mono ?_
              rintro e1 w5 ⟨rfl,rfl⟩
              go_wp2_with fail
              go_roundw
              case rel => exact ⟨j,j,acc2,rfl,rfl,Nat.le_refl _,hnle,by omega,hl4,hb4,by show _ = _; rw [hv2.out,piece_nil]; rfl⟩
              case measure => simp [intOf]; omega
    · obtain rfl : i = s.size:=by omega
      have hv2 : Hid (T = acc ++ M5.charsT (pieceL s.data.toList a s.size)):=by show _ = _; rw [hv.out,drop_end s s.size (Nat.le_refl _),M5.toksR_nil]
      obtain ⟨a3,c3,rfl⟩:=hl.slice
      by_cases hgt : a < s.size
      · have hdec:=hD.out a s.size
        rw [show (s.extract a s.size).data.toList = pieceL s.data.toList a s.size from Lib.extract_data _ _ _] at hdec
        have hch:=charsT_ne (piece_ne s a s.size hgt (Nat.le_refl _))
        obtain ⟨dv,hdv⟩ : ∃ x,Hid (x = M5.bs (M2.decode (pieceL s.data.toList a s.size))):=⟨_,rfl⟩
        have hdec2 : Hid (∀ w,Calls Tryz.prog 67 #[.string (s.extract a s.size)] w (fun e w' => e = .returned (.string dv) ∧ Below w.heap.size w w')):=Lib.hid (fun w => (hdec w).mono (by
          rintro e w' ⟨rfl,hb⟩
          exact ⟨by rw [hdv.out]; rfl,hb⟩))
        rw [← hdv.out] at hch
        rw [hch] at hv2
        clear hdec
        replace hch:=Lib.hid hch
        have hgti : decide ((a : Int) < (s.size : Int)) = true:=decide_eq_true (by omega)
        go_wp2_with fail
        refine (hdec2.out _).mono ?_
        rintro e1 w2 ⟨rfl,hb2⟩
        obtain ⟨xs,hown,hrep⟩:=hl.below hb2
        have hbw2:=Lib.hid (bt hbw hb2)
        clear hb2
        go_wp2_with (at_builtin; refine wpList_appOne w2 [.int .i64 3,.string ⟨#[]⟩,.slice none 0 0,.string dv] rfl _ _ 61 87 rfl wo.heap.size 4 Tryz.underlying61 infoT5 rfl (by omega) _ acc.length xs rfl hown w2.heap.size rfl (by rfl) rfl (tok_one _ _ _ _ _ _) (by omega) (by omega) hbw2.out.size ?_; intro gg cap' w5 hown5 hgrow hat5)
        go_ret
        exact ⟨_,rfl,by rw [hv2.out]; exact Toks.snoc (t:=⟨3,⟨#[]⟩,[],dv⟩) hrep (Row.nil _ _ _) hgrow hat5 hown5,hbw2.out.grown hgrow hbw2.out.size (fun k hk => (hown.lt k hk).1)⟩
      · have hgti : decide ((a : Int) < (s.size : Int)) = false:=decide_eq_false (by omega)
        obtain rfl : a = s.size:=by omega
        rw [piece_nil] at hv2
        go_wp2_with fail
        go_ret
        exact ⟨_,rfl,by rw [hv2.out]; show Toks wr wo.heap.size _ (acc ++ []); rw [List.append_nil]; exact hl,hbw⟩
end Go.Proofs.YteefodibpjgicaaGreat

namespace Go.Proofs.YteefodibpjgicaaGreat
open Go.RowKit
end Go.Proofs.YteefodibpjgicaaGreat

namespace Go.Proofs.YteefodibpjgicaaGreat
open Go.RowKit
theorem glo_of {w : World} (h : w.ShapedOpen Tryz.prog) : Glo w:=Tryz.laysM145.s1_3 w h
theorem Sl.len8 {w : World} {v : Value} {l : List UInt8} (h : Sl w v (u8s l)) : ∃ a cap,v = .slice a l.length cap ∧ l.length ≤ cap ∧ cap ≤ 9223372036854775807:=by
  obtain ⟨a,cap,rfl,h2,h3,_,_⟩:=h
  rw [u8s_length] at *
  exact ⟨a,cap,rfl,h2,h3⟩
end Go.Proofs.YteefodibpjgicaaGreat
