/- Texts joined: Refs2, DomM2, Clone3. -/
import Derived.Test.YteefodibpjgicaaGreatA17
import Derived.Test.YteefodibpjgicaaGreatA18
import Derived.Test.YteefodibpjgicaaGreatA19
namespace Go.Proofs.YteefodibpjgicaaGreat
open Go.RowKit Go.Maps Go.WideShapes
theorem names_keep {w w' : World} {b B : Nat} (h : Names w b) (hb : Below B w w') (hlt : b < B) : Names w' b:=by
  obtain ⟨es,clock,h1,h2⟩:=h
  exact ⟨es,clock,by rw [hb.block b hlt]; exact h1,h2⟩
theorem grown_below {w w' : World} (hb : Below w.heap.size w w') : w.grownBy w' none:=⟨hb.os,hb.tape,hb.output,hb.size,fun k hk _ => hb.block k hk⟩
theorem bldrAt_below {T e : TypeId} {B b : Nat} {p : Value} {bs : List Value} {w w' : World} (h : Lib.BuilderAtF T e B b p bs w) (hb : Below w.heap.size w w') : Lib.BuilderAtF T e B b p bs w':=by
  have hlt:=h.lt
  obtain ⟨hB,v,hbk,hown,hne⟩:=h
  refine ⟨hB,v,by rw [hb.block b hlt]; exact hbk,hown.kept (grown_below hb) (by cases v.ownBlock <;> simp),hne⟩
def strSz : Value → Nat
  | .string s => s.size
  | _ => 0
set_option maxHeartbeats 4000000 in
set_option maxRecDepth 100000 in
theorem refsDecode (s : ByteArray) (w : World) (hs : s.size ≤ 1073741824) :
    Calls Tryz.prog 167 #[.string s] w fun e w' => e = .returned (.string ⟨(M2.decode s.data.toList).toArray⟩) ∧ Below w.heap.size w w':=by
  by_cases hc : (38 : UInt8) ∈ s.data.toList
  · have hge : decide (0 ≤ Lib.indexByte s.data.toList 38) = true:=by
      refine decide_eq_true ?_
      have h1:=Lib.indexByte_ge s.data.toList 38
      rcases Int.lt_or_le (Lib.indexByte s.data.toList 38) 0 with h2 | h2
      · exfalso
        obtain ⟨k,hk⟩:=List.getElem?_of_mem hc
        exact Lib.indexByte_none (by omega) k hk
      · exact h2
    clear hc
    generalize hD : M2.decode s.data.toList = D
    replace hD:=Lib.hid hD
    go_enter Tryz.func167,Tryz.ntmps167
    go_wp2_with fail
    refine (sContains1 s 38 w).mono ?_
    rintro e w0 ⟨rfl,rfl⟩
    rw [hge]
    clear hge
    go_wp2_with fail
    refine (refsNames _).mono ?_
    rintro e w1 ⟨b,rfl,hN,b1⟩
    have hblt:=hN.lt
    go_wp2
    go_loopw [0] (fun u0 wr => ∃ (t : ByteArray) (acc : List UInt8),u0 = .string t ∧ t.size ≤ s.size ∧ acc.length ≤ 4 * (s.size - t.size) ∧ Lib.IsBuilderF 120 5 w1.heap.size w1.heap.size (u8s acc) wr ∧ Names wr b ∧ Below w1.heap.size w1 wr ∧ Hid (D = acc ++ M2.decode t.data.toList)) (fun u0 _ => strSz u0)
    case atStart =>
      exact ⟨s,[],rfl,by omega,by simp,Lib.IsBuilderF.of (Lib.fresh_isBuilder 120 5 w1),hN.alloc _,(Below.refl _ w1).alloc (Nat.le_refl _) _,hD.out.symm⟩
    case round =>
      obtain ⟨t,acc,rfl,htl,hal,hI,hNr,hbr,hacc⟩:=hrel
      have htz : t.data.toList.length = t.size:=rfl
      have hge:=Lib.indexByte_ge t.data.toList 38
      have hno:=Lib.indexByte_none (l:=t.data.toList) (c:=38)
      have hso:=fun o => Lib.indexByte_some (l:=t.data.toList) (c:=38) (o:=o)
      have hB:=hbr.size
      go_wp2_with fail
      refine (sIndexByte t 38 wr).mono ?_
      rintro e w' ⟨rfl,rfl⟩
      rw [show (38 : Int).toNat.toUInt8 = 38 from rfl]
      generalize Lib.indexByte t.data.toList 38 = i at *
      by_cases hi : i < 0
      · have h38 : (38 : UInt8) ∉ t.data.toList:=fun hm => by
          obtain ⟨k,hk⟩:=List.getElem?_of_mem hm
          exact hno (by omega) k hk
        have hd:=Lib.hid (hacc.out.trans (congrArg (acc ++ ·) (M2.decode_self _ h38)))
        clear hno hso h38 hacc htz hge
        go_wp2_with fail
        refine (bWriteString w1.heap.size w1.heap.size (u8s acc) t _ hI (by rw [u8s_length]; omega) hB).mono ?_
        rintro e w2 ⟨rfl,hI2,b2,k2⟩
        have hI3 : Lib.IsBuilderF 120 5 w1.heap.size w1.heap.size (u8s (acc ++ t.data.toList)) w2:=by rw [u8s_append]; exact Or.inr hI2
        have hz2:=b2.size
        go_wp2_with fail
        refine (bString w1.heap.size w1.heap.size _ w2 hI3 (by omega)).mono ?_
        rintro e w3 ⟨rfl,_,b3,_⟩
        go_wp2
        go_ret
        rw [hd.out]
        exact ⟨rfl,bt b1 ((hbr.trans b2).trans b3)⟩
      · obtain ⟨k,rfl⟩ : ∃ k : Nat,i = k:=⟨i.toNat,by omega⟩
        obtain ⟨hk1,hk2⟩:=hso k rfl
        have hk : k < t.size:=(List.getElem?_eq_some_iff.1 hk1).1
        have hpast : M2.decode t.data.toList = t.data.toList.take k ++ M2.decode (t.data.toList.drop k):=by
          conv => lhs; rw [← List.take_append_drop k t.data.toList]
          refine M2.decode_past _ _ (fun hm => ?_)
          obtain ⟨j,hj,hj2⟩:=List.getElem_of_mem hm
          have hj1 : j < k:=by rw [List.length_take] at hj; omega
          refine hk2 j hj1 ?_
          rw [← hj2,List.getElem_take,List.getElem?_eq_getElem]
        have hhd : (t.data.toList.drop k).head? = some 38:=by rw [List.head?_drop]; exact hk1
        clear hno hso hge hk1 hk2 hi
        have x0 : (t.extract 0 k).data.toList = t.data.toList.take k:=by rw [Lib.extract_data]; simp
        have x1 : (t.extract k t.size).data.toList = t.data.toList.drop k:=extract_end t k
        have z0 : (t.extract 0 k).size = k:=by rw [ByteArray.size_extract]; omega
        have z1 : (t.extract k t.size).size = t.size - k:=by rw [ByteArray.size_extract]; omega
        rw [← x1] at hhd hpast
        rw [← x0] at hpast
        replace hacc:=Lib.hid (hacc.out.trans (congrArg (acc ++ ·) hpast))
        replace hhd:=Lib.hid hhd
        replace x0:=Lib.hid x0
        have z0:=Lib.hid z0
        have z1:=Lib.hid z1
        have hrest : ∃ (r : Int) (n : Nat),(r = 38 ∧ n = 1 ∧ M2.one (t.extract k t.size).data.toList = none ∨ M2.one (t.extract k t.size).data.toList = some (r,n)) ∧ 0 ≤ r ∧ r ≤ 1114111 ∧ 1 ≤ n ∧ n ≤ t.size - k ∧ M2.decode (t.extract k t.size).data.toList = M1.enc r ++ M2.decode ((t.extract k t.size).data.toList.drop n):=by
          have hlen : (t.extract k t.size).data.toList.length = t.size - k:=z1.out
          cases ho : M2.one (t.extract k t.size).data.toList with
          | none =>
            refine ⟨38,1,Or.inl ⟨rfl,rfl,rfl⟩,by omega,by omega,by omega,by omega,?_⟩
            have h:=hhd.out
            generalize (t.extract k t.size).data.toList = u at *
            cases u with
            | nil => cases h
            | cons c u =>
              simp at h
              subst h
              rw [M2.decode_byte ho,show M1.enc 38 = [38] by decide]
              rfl
          | some p =>
            obtain ⟨r,n⟩:=p
            have hb:=M2.one_bd ho
            have hok:=hb.2.2.1
            unfold M1.okRune at hok
            exact ⟨r,n,Or.inr rfl,by omega,by omega,by omega,by omega,M2.decode_ref ho⟩
        obtain ⟨r,n,hone,hr0,hr1,hn1,hn2,hdec⟩:=hrest
        have hone:=Lib.hid hone
        replace hacc:=Lib.hid (hacc.out.trans (congrArg (fun x => acc ++ ((t.extract 0 k).data.toList ++ x)) hdec))
        clear hpast x1 hdec
        rename_i z0' z1' hone'
        clear z0' z1' hone'
        go_wp2_with fail
        refine (bWriteString w1.heap.size w1.heap.size (u8s acc) (t.extract 0 k) _ hI (by rw [u8s_length,z0.out]; omega) hB).mono ?_
        rintro e w2 ⟨rfl,hI2,b2,k2⟩
        have hI3 : Lib.BuilderAtF 120 5 w1.heap.size w1.heap.size (.pointer (some ⟨w1.heap.size,0,none⟩)) (u8s (acc ++ (t.extract 0 k).data.toList)) w2:=by rw [u8s_append]; exact hI2
        have hN2:=names_keep hNr b2 hblt
        have B2:=hbr.trans b2
        have hz2:=B2.size
        clear hI2 k2 b2
        have hal2 : (acc ++ (t.extract 0 k).data.toList).length ≤ acc.length + k:=by
          have e : (t.extract 0 k).data.toList.length = k:=z0.out
          rw [List.length_append,e]
          exact Nat.le_refl _
        have htb : (t.extract k t.size).size ≤ 1073741824:=by rw [z1.out]; omega
        have hacc2 : Hid (D = (acc ++ (t.extract 0 k).data.toList ++ M1.enc r) ++ M2.decode ((t.extract k t.size).data.toList.drop n)):=by
          show _ = _
          rw [hacc.out]
          simp
        have hz1:=z1.out
        clear hacc z0 z1 x0
        generalize acc ++ (t.extract 0 k).data.toList = acc2 at *
        go_wp2_with fail
        refine (refsOne' (t.extract k t.size) b w2 hN2 hhd.out htb).mono ?_
        rintro e w3 ⟨rfl,b3⟩
        generalize t.extract k t.size = tb at *
        have hI4:=bldrAt_below hI3 b3
        have hN3:=ownsMap_below hN2 b3
        have B3:=B2.trans (b3.mono hz2)
        have hz3:=B3.size
        have xn : (tb.extract n tb.size).data.toList = tb.data.toList.drop n:=extract_end tb n
        have zn : Hid ((tb.extract n tb.size).size = t.size - k - n):=by
          show _ = _
          rw [ByteArray.size_extract]; omega
        rw [← xn] at hacc2
        have hntb : n ≤ tb.size:=by omega
        have hel:=M2.enc_len_le r
        replace hz1:=Lib.hid hz1
        clear hI3 hN2 B2 hz2 b3 xn
        have fin : ∀ w4,Lib.BuilderAtF 120 5 w1.heap.size w1.heap.size (.pointer (some ⟨w1.heap.size,0,none⟩)) (u8s acc2 ++ Lib.runeCells r) w4 → Below w1.heap.size w3 w4 →
            ∃ (t' : ByteArray) (acc' : List UInt8),Value.string (tb.extract n tb.size) = .string t' ∧ t'.size ≤ s.size ∧ acc'.length ≤ 4 * (s.size - t'.size) ∧ Lib.IsBuilderF 120 5 w1.heap.size w1.heap.size (u8s acc') w4 ∧ Names w4 b ∧ Below w1.heap.size w1 w4 ∧ Hid (D = acc' ++ M2.decode t'.data.toList):=by
          intro w4 hI5 b4
          refine ⟨_,acc2 ++ M1.enc r,rfl,by rw [zn.out]; omega,by rw [zn.out,List.length_append]; omega,?_,names_keep hN3 b4 hblt,B3.trans b4,hacc2.out⟩
          rw [u8s_append,show u8s (M1.enc r) = Lib.runeCells r from Lib.byteCells_encodeRune r]
          exact Or.inr hI5
        replace fin:=Lib.hid fin
        have hWR:=fun (x : Int) (h1 : 0 ≤ x) (h2 : x ≤ 1114111) => bWriteRune w1.heap.size w1.heap.size (u8s acc2) x (by omega) (by omega) w3 (Or.inr hI4) (by rw [u8s_length]; omega) hz3
        replace hWR:=Lib.hid hWR
        rcases hone.out with ⟨rfl,rfl,ho⟩ | ho
        · rw [ho,ans_none]
          clear ho hone
          go_wp2_with fail
          refine (hWR.out 38 (by omega) (by omega)).mono ?_
          rintro e w4 ⟨rfl,hI5,b4,k4⟩
          have F:=Lib.hid (fin.out w4 hI5 b4)
          go_wp2
          go_roundw
          case rel => exact F.out
          case measure => have hz1':=hz1.out; simp [strSz]; omega
        · rw [ho,ans_some]
          have hn0 : ((n : Int) == 0) = false:=by simp; omega
          clear ho hone
          go_wp2_with fail
          refine (hWR.out r hr0 hr1).mono ?_
          rintro e w4 ⟨rfl,hI5,b4,k4⟩
          have F:=Lib.hid (fin.out w4 hI5 b4)
          go_wp2
          go_roundw
          case rel => exact F.out
          case measure => have hz1':=hz1.out; simp [strSz]; omega
  · have hge : decide (0 ≤ Lib.indexByte s.data.toList 38) = false:=by
      refine decide_eq_false ?_
      rw [M2.indexByte_no _ _ hc]
      omega
    rw [M2.decode_self _ hc]
    clear hc
    go_enter Tryz.func167,Tryz.ntmps167
    go_wp2_with fail
    refine (sContains1 s 38 w).mono ?_
    rintro e w0 ⟨rfl,rfl⟩
    rw [hge]
    clear hge
    go_wp2_with fail
    refine (sClone s _ (by omega)).mono ?_
    rintro e w1 ⟨rfl,b1⟩
    go_wp2
    go_ret
    exact ⟨rfl,b1⟩
set_option maxHeartbeats 4000000 in
set_option maxRecDepth 100000 in
theorem refsEscape (s : ByteArray) (v : Bool) (w : World) (hs : s.size ≤ 1073741824) :
    Calls Tryz.prog 119 #[.string s,.bool v] w fun e w' => e = .returned (.string ⟨(M2.escape v s.data.toList).toArray⟩) ∧ Below w.heap.size w w':=by
  go_enter Tryz.func119,Tryz.ntmps119
  go_wp2
  go_loopw [10] (fun i wr => ∃ k : Nat,k ≤ s.size ∧ i = .int .i64 k ∧ Lib.IsBuilderF 120 5 w.heap.size w.heap.size (u8s (M2.escape v (s.data.toList.take k))) wr ∧ Below w.heap.size w wr) (fun i _ => s.size - (intOf i).toNat)
  case atStart =>
    exact ⟨0,by omega,rfl,Lib.IsBuilderF.of (Lib.fresh_isBuilder 120 5 w),(Below.refl _ w).alloc (Nat.le_refl _) _⟩
  case round =>
    obtain ⟨k,hk,rfl,hI,hbw⟩:=hrel
    have hle:=M2.escape_len v (s.data.toList.take k)
    have hlt1 : (s.data.toList.take k).length ≤ k:=List.length_take_le _ _
    have hB:=hbw.size
    by_cases hlt : k < s.size
    · have htk : M2.escape v (s.data.toList.take (k + 1)) = M2.escape v (s.data.toList.take k) ++ M2.esc v s[k]:=by
        rw [show s.data.toList.take (k + 1) = s.data.toList.take k ++ [s[k]] from List.take_succ_eq_append_getElem (l:=s.data.toList) hlt,M2.escape_append]
        simp [M2.escape]
      have fin : ∀ (add : List UInt8) w2,M2.esc v s[k] = add → Lib.BuilderAtF 120 5 w.heap.size w.heap.size (.pointer (some ⟨w.heap.size,0,none⟩)) (u8s (M2.escape v (s.data.toList.take k)) ++ u8s add) w2 → Below w.heap.size wr w2 →
          ∃ j : Nat,j ≤ s.size ∧ Value.int .i64 ((k : Int) + 1) = .int .i64 j ∧ Lib.IsBuilderF 120 5 w.heap.size w.heap.size (u8s (M2.escape v (s.data.toList.take j))) w2 ∧ Below w.heap.size w w2:=by
        intro add w2 h1 h2 h3
        refine ⟨k + 1,by omega,by go_num,?_,hbw.trans h3⟩
        rw [htk,u8s_append,h1]
        exact Or.inr h2
      replace fin:=Lib.hid fin
      have hWS:=fun (x : List UInt8) (h : x.length ≤ 6) => bWriteString w.heap.size w.heap.size (u8s (M2.escape v (s.data.toList.take k))) ⟨x.toArray⟩ wr hI (by rw [u8s_length]; show _ + x.length ≤ _; omega) hB
      have hWB:=fun (x : Int) => bWriteByte w.heap.size w.heap.size (u8s (M2.escape v (s.data.toList.take k))) x wr hI (by rw [u8s_length]; omega) hB
      replace hWS:=Lib.hid hWS
      replace hWB:=Lib.hid hWB
      clear htk hI hle hlt1
      by_cases h38 : s[k] = 38
      · have F:=Lib.hid (fin.out [38,97,109,112,59] · (by rw [h38]; rfl))
        clear fin hWB
        go_wp2_with fail
        refine (hWS.out [38,97,109,112,59] (by decide)).mono ?_
        rintro e w2 ⟨rfl,hI2,b2,k2⟩
        replace F:=Lib.hid (F.out w2 hI2 b2)
        go_wp2
        go_roundw
        case rel => exact F.out
        case measure => simp [intOf]; omega
      have h38b : ((s[k].toNat : Int) == 38) = false:=by simp; intro e; exact h38 (UInt8.toNat_inj.1 (by simpa using (by omega : s[k].toNat = 38)))
      by_cases h60 : s[k] = 60
      · have F:=Lib.hid (fin.out [38,108,116,59] · (by rw [h60]; rfl))
        clear fin hWB h38
        go_wp2_with fail
        refine (hWS.out [38,108,116,59] (by decide)).mono ?_
        rintro e w2 ⟨rfl,hI2,b2,k2⟩
        replace F:=Lib.hid (F.out w2 hI2 b2)
        go_wp2
        go_roundw
        case rel => exact F.out
        case measure => simp [intOf]; omega
      have h60b : ((s[k].toNat : Int) == 60) = false:=by simp; intro e; exact h60 (UInt8.toNat_inj.1 (by simpa using (by omega : s[k].toNat = 60)))
      by_cases h62 : s[k] = 62
      · have F:=Lib.hid (fin.out [38,103,116,59] · (by rw [h62]; rfl))
        clear fin hWB h38 h60
        go_wp2_with fail
        refine (hWS.out [38,103,116,59] (by decide)).mono ?_
        rintro e w2 ⟨rfl,hI2,b2,k2⟩
        replace F:=Lib.hid (F.out w2 hI2 b2)
        go_wp2
        go_roundw
        case rel => exact F.out
        case measure => simp [intOf]; omega
      have h62b : ((s[k].toNat : Int) == 62) = false:=by simp; intro e; exact h62 (UInt8.toNat_inj.1 (by simpa using (by omega : s[k].toNat = 62)))
      by_cases h34 : s[k] = 34
      · cases v
        · have F:=Lib.hid (fin.out [34] · (by rw [h34]; rfl))
          clear fin hWS h38 h60 h62
          go_wp2_with fail
          refine (hWB.out 34).mono ?_
          rintro e w2 ⟨rfl,hI2,b2,k2⟩
          replace F:=Lib.hid (F.out w2 hI2 b2)
          go_wp2
          go_roundw
          case rel => exact F.out
          case measure => simp [intOf]; omega
        · have F:=Lib.hid (fin.out [38,113,117,111,116,59] · (by rw [h34]; rfl))
          clear fin hWB h38 h60 h62
          go_wp2_with fail
          refine (hWS.out [38,113,117,111,116,59] (by decide)).mono ?_
          rintro e w2 ⟨rfl,hI2,b2,k2⟩
          replace F:=Lib.hid (F.out w2 hI2 b2)
          go_wp2
          go_roundw
          case rel => exact F.out
          case measure => simp [intOf]; omega
      have h34b : ((s[k].toNat : Int) == 34) = false:=by simp; intro e; exact h34 (UInt8.toNat_inj.1 (by simpa using (by omega : s[k].toNat = 34)))
      have F:=Lib.hid (fin.out [s[k]] · (by rw [M2.esc,if_neg h38,if_neg h60,if_neg h62,if_neg (fun e => h34 e.1)]))
      clear fin hWS h38 h60 h62 h34
      go_wp2_with fail
      refine (hWB.out (s[k].toNat : Int)).mono ?_
      rintro e w2 ⟨rfl,hI2,b2,k2⟩
      replace F:=Lib.hid (F.out w2 hI2 b2)
      go_wp2
      go_roundw
      case rel => exact F.out
      case measure => simp [intOf]; omega
    · go_wp2_with fail
      refine (bString w.heap.size w.heap.size _ _ hI hB).mono ?_
      rintro e W1 ⟨rfl,_,b1,_⟩
      go_wp2
      go_ret
      rw [List.take_of_length_le (show s.data.toList.length ≤ k from by have : s.data.toList.length = s.size:=rfl; omega)]
      exact ⟨rfl,hbw.trans b1⟩
end Go.Proofs.YteefodibpjgicaaGreat

namespace Go.Proofs.YteefodibpjgicaaGreat
open Go.RowKit
def txtN (l : List Nd) : Nat:=(l.map fun x => x.text.size).sum
theorem txtN_cons (x : Nd) (l : List Nd) : txtN (x :: l) = x.text.size + txtN l:=by simp [txtN]
theorem txtN_append (a b : List Nd) : txtN (a ++ b) = txtN a + txtN b:=by simp [txtN]
theorem txtN_mem {l : List Nd} {x : Nd} (h : x ∈ l) : x.text.size ≤ txtN l:=by
  induction l with
  | nil => cases h
  | cons y r ih =>
    rw [txtN_cons]
    rcases List.mem_cons.1 h with rfl | h
    · omega
    · have:=ih h; omega
theorem txtV_map (L : List NV) : txtV L = txtN (L.map NV.x):=by simp [txtV,txtN,Function.comp_def]
end Go.Proofs.YteefodibpjgicaaGreat

namespace Go.Proofs.YteefodibpjgicaaGreat
open Go.RowKit
abbrev Few6 (l : List Nd) : Prop:=M3.weight l ≤ 1000000
theorem set5 (done Z : List Value) (i : Nat) (c0 c1 c2 c3 c4 z0 z1 z2 z3 z4 : Value) (hd : done.length = i * 5) :
    (((((done ++ z0 :: z1 :: z2 :: z3 :: z4 :: Z).set (i * 5) c0).set (i * 5 + 1) c1).set (i * 5 + 2) c2).set (i * 5 + 3) c3).set (i * 5 + 4) c4 = done ++ [c0,c1,c2,c3,c4] ++ Z:=by
  rw [← hd]
  simp
theorem own_cell {w : World} {B : Nat} {e : TypeId} {k n g cap : Nat} {xs : List Value} (h : w.ownsRow B e k (.slice (some ⟨g,0,none⟩) n cap) n xs) (j : Nat) (u : Value) (hu : xs[j]? = some u) : w.cell? ⟨g,j,none⟩ = some u ∧ w.frozen? ⟨g,j,none⟩ = false:=by
  refine ⟨by have:=h.cells (g:=g) rfl j u hu; rwa [add_plain',Nat.zero_add] at this,?_⟩
  rcases h.2 with ⟨h',_⟩ | ⟨g',cap',cur,h',_,hg,_⟩
  · cases h'
  · cases h'
    simp [World.frozen?,hg]
def put5 (w : World) (g i : Nat) (c0 c1 c2 c3 c4 : Value) : World:=((((w.setCell ⟨g,i * 5,none⟩ c0).setCell ⟨g,i * 5 + 1,none⟩ c1).setCell ⟨g,i * 5 + 2,none⟩ c2).setCell ⟨g,i * 5 + 3,none⟩ c3).setCell ⟨g,i * 5 + 4,none⟩ c4
theorem put5_own {w : World} {B : Nat} {e : TypeId} {n g cap i : Nat} {done Z : List Value} {z0 z1 z2 z3 z4 : Value} (h : w.ownsRow B e 5 (.slice (some ⟨g,0,none⟩) n cap) n (done ++ z0 :: z1 :: z2 :: z3 :: z4 :: Z)) (hd : done.length = i * 5) (c0 c1 c2 c3 c4 : Value) :
    (put5 w g i c0 c1 c2 c3 c4).ownsRow B e 5 (.slice (some ⟨g,0,none⟩) n cap) n (done ++ [c0,c1,c2,c3,c4] ++ Z):=by
  have:=((((h.stored (i * 5) c0).1.stored (i * 5 + 1) c1).1.stored (i * 5 + 2) c2).1.stored (i * 5 + 3) c3).1.stored (i * 5 + 4) c4
  rw [set5 _ _ _ _ _ _ _ _ _ _ _ _ _ hd] at this
  exact this.1
theorem put5_far (w : World) (g i : Nat) (c0 c1 c2 c3 c4 : Value) (b : Nat) (h : b ≠ g) : (put5 w g i c0 c1 c2 c3 c4).heap[b]? = w.heap[b]?:=by
  unfold put5
  rw [Below.heap_setCell _ _ _ _ (by simpa using h),Below.heap_setCell _ _ _ _ (by simpa using h),Below.heap_setCell _ _ _ _ (by simpa using h),Below.heap_setCell _ _ _ _ (by simpa using h),Below.heap_setCell _ _ _ _ (by simpa using h)]
theorem put5_size (w : World) (g i : Nat) (c0 c1 c2 c3 c4 : Value) : (put5 w g i c0 c1 c2 c3 c4).heap.size = w.heap.size:=by simp [put5,World.setCell]
theorem put5_below {B : Nat} {a w : World} (h : Below B a w) (g i : Nat) (c0 c1 c2 c3 c4 : Value) (hg : B ≤ g) : Below B a (put5 w g i c0 c1 c2 c3 c4) :=
  ((((h.setCell (p:=⟨g,i * 5,none⟩) hg c0).setCell (p:=⟨g,i * 5 + 1,none⟩) hg c1).setCell (p:=⟨g,i * 5 + 2,none⟩) hg c2).setCell (p:=⟨g,i * 5 + 3,none⟩) hg c3).setCell (p:=⟨g,i * 5 + 4,none⟩) hg c4
theorem weight_le {x : Nd} {l : List Nd} (h : x ∈ l) : 1 + x.attrs.length + M3.weight x.kids ≤ M3.weight l:=by
  induction l with
  | nil => cases h
  | cons y r ih =>
    rw [M3.weight_cons]
    rcases List.mem_cons.1 h with rfl | h
    · omega
    · have:=ih h; omega
set_option maxHeartbeats 4000000 in
set_option maxRecDepth 100000 in
theorem domClone (wt : Nat) : ∀ (S : Nat → Prop) (v : Value) (l : List Nd) (w : World),M3.weight l < wt → Few6 l → (∀ b,S b → b < w.heap.size) → RepN S w v l →
    Calls Tryz.prog 211 #[v] w (FreshPost l w):=by
  induction wt with
  | zero => intro S v l w h; omega
  | succ wt ih =>
    intro S v l w hwt hf hS hr
    have hll:=M3.length_le_weight l
    obtain ⟨a,cap,rfl⟩:=hr.slice
    obtain ⟨_,hlc,hcm⟩:=hr.len
    by_cases h0 : l.length = 0
    · obtain rfl : l = []:=List.eq_nil_of_length_eq_zero h0
      go_enter Tryz.func211,Tryz.ntmps211
      go_wp2
      go_ret
      exact ⟨_,rfl,⟨[],[],World.ownsRow_nil _ _ _ _,OwnC.nil _,Span.nil _ _⟩,Below.refl _ _⟩
    have hzb : ((l.length : Int) == 0) = false:=by simpa using h0
    obtain ⟨i0,hi0,hz0,hz1,hz2⟩:=info_parts infoN
    obtain ⟨W0,hmk,hownz,hg0⟩:=run_make_full (P:=Tryz.prog) (w:=w) w.heap.size 25 41 i0 _ 5 Tryz.underlying25 hi0 hz0 hz1 .i64 .i64 l.length (by rw [hz2]; omega) (by unfold maxLen; omega) (Nat.le_refl _)
    have hB0 : Below w.heap.size w W0:=⟨hg0.os,hg0.tape,hg0.output,hg0.size,fun k hk => hg0.block k hk (by simp)⟩
    have hlz : (madeCells (Value.agg #[.int .i64 0,.string ⟨#[]⟩,.slice none 0 0,.string ⟨#[]⟩,.slice none 0 0]).cells (l.length * 5)).toList.length = l.length * 5:=hownz.1
    generalize (madeCells (Value.agg #[.int .i64 0,.string ⟨#[]⟩,.slice none 0 0,.string ⟨#[]⟩,.slice none 0 0]).cells (l.length * 5)).toList = Z0 at *
    clear hg0 h0
    replace hlz:=Lib.hid hlz
    go_enter Tryz.func211,Tryz.ntmps211
    go_wp2
    go_loopw [14] (fun u14 wr => ∃ (i : Nat) (done Z : List Value) (F : List Nat),i ≤ l.length ∧ u14 = .int .i64 (i : Int) ∧ done.length = i * 5 ∧ Z.length = (l.length - i) * 5 ∧ wr.ownsRow w.heap.size 41 5 (.slice (some ⟨w.heap.size,0,none⟩) l.length l.length) l.length (done ++ Z) ∧ OwnC wr done (l.take i) F ∧ Span (w.heap.size + 1) wr.heap.size F ∧ Below w.heap.size w wr) (fun u14 _ => l.length - (intOf u14).toNat)
    case atStart => exact ⟨0,[],Z0,[],by omega,rfl,rfl,hlz.out,hownz,by simpa using OwnC.nil _,Span.nil _ _,hB0⟩
    case round =>
      obtain ⟨i,done,Z,F,hi,rfl,hd,hZ,hown,hoc,hsp,hb⟩:=hrel
      have hz:=hb.size
      have hgl:=(hown.lt w.heap.size rfl).2
      by_cases hlt : i < l.length
      · obtain ⟨b,off,va,vk,rfl,hSb,c0,c1,c2,c3,c4,hrv⟩:=(hr.below hS hb).at_ i hlt
        have hbl:=hS b hSb
        have htk : l.take (i + 1) = l.take i ++ [l[i]]:=List.take_succ_eq_append_getElem hlt
        have hwx:=weight_le (List.getElem_mem hlt)
        generalize l[i] = x at *
        obtain ⟨hat,hkd⟩:=hrv
        obtain ⟨a1,cap1,rfl⟩:=hat.slice
        obtain ⟨a2,cap2,rfl⟩:=hkd.slice
        obtain ⟨z0,z1,z2,z3,z4,Z',rfl⟩ : ∃ z0 z1 z2 z3 z4 Z',Z = z0 :: z1 :: z2 :: z3 :: z4 :: Z':=by
          match Z,hZ with
          | z0 :: z1 :: z2 :: z3 :: z4 :: Z',_ => exact ⟨_,_,_,_,_,_,rfl⟩
          | [],h | [_],h | [_,_],h | [_,_,_],h | [_,_,_,_],h => simp at h; omega
        have hbx:=(Below.refl wr.heap.size wr).alloc (Nat.le_refl _) (.cells (x.cells (.slice a1 x.attrs.length cap1) (.slice a2 x.kids.length cap2)).toArray 41)
        have hcl:=fun W (hbb : Below w.heap.size w W) => domClone1 S x (.slice a1 x.attrs.length cap1) (.slice a2 x.kids.length cap2) W (fun b h => by have:=hS b h; have:=hbb.size; omega)
        have hrx : ∀ W,Below wr.heap.size wr W → RepV S W x (.slice a1 x.attrs.length cap1) (.slice a2 x.kids.length cap2):=fun W hW => RepV.below (w:=wr) (B:=wr.heap.size) ⟨hat,hkd⟩ (fun b h => by have:=hS b h; omega) hW
        have hihx:=fun W h1 h2 => ih S (.slice a2 x.kids.length cap2) x.kids W (by omega) (by show M3.weight x.kids ≤ 1000000; unfold Few6 at hf; omega) h1 h2
        have hcl2:=hcl (wr.alloc (.cells (x.cells (.slice a1 x.attrs.length cap1) (.slice a2 x.kids.length cap2)).toArray 41)) (hb.alloc hz _) (hrx _ hbx) (by unfold Few6 at hf; omega) hihx
        have hkd0 : Hid True:=trivial
        clear hcl hrx hihx
        replace hcl2:=Lib.hid hcl2
        replace htk:=Lib.hid htk
        replace hd:=Lib.hid hd
        replace hZ:=Lib.hid hZ
        replace hoc:=Lib.hid hoc
        replace hown:=Lib.hid hown
        go_wp2_with (fail)
        refine hcl2.out.mono ?_
        rintro e w2 ⟨va2,vk2,zs2,F2,rfl,oa,ok,hoc2,hsp2,hb2⟩
        obtain ⟨a3,cap3,rfl⟩:=own_slice oa
        obtain ⟨a4,cap4,rfl⟩:=own_slice ok
        have hbw2 : Below wr.heap.size wr w2:=hbx.trans (hb2.mono (by simp))
        have own2:=own_keep hown.out (w':=w2) (fun g hg => by
          have h1 : w.heap.size = g:=by simpa [Value.ownBlock] using hg
          rw [← h1]; exact hbw2.block _ hgl)
        have hzz : ∀ j u,([z0,z1,z2,z3,z4] : List Value)[j]? = some u → (done ++ z0 :: z1 :: z2 :: z3 :: z4 :: Z')[i * 5 + j]? = some u:=by
          intro j u hu
          rw [List.getElem?_append_right (by have:=hd.out; omega),show i * 5 + j - done.length = j by have:=hd.out; omega]
          have:=(List.getElem?_eq_some_iff.1 hu).1
          simp at this
          match j,this with
          | 0,_ | 1,_ | 2,_ | 3,_ | 4,_ => exact hu
        obtain ⟨y0,g0⟩:=own_cell own2 _ _ (hzz 0 _ rfl)
        obtain ⟨y1,g1⟩:=own_cell own2 _ _ (hzz 1 _ rfl)
        obtain ⟨y2,g2⟩:=own_cell own2 _ _ (hzz 2 _ rfl)
        obtain ⟨y3,g3⟩:=own_cell own2 _ _ (hzz 3 _ rfl)
        obtain ⟨y4,g4⟩:=own_cell own2 _ _ (hzz 4 _ rfl)
        simp only [Nat.add_zero] at y0 g0
        have hbw : Below w.heap.size w w2:=hb.trans (hbw2.mono hz)
        have hzw:=hbw2.size
        replace hzz:=Lib.hid hzz
        replace own2:=Lib.hid own2
        replace oa:=Lib.hid oa
        replace ok:=Lib.hid ok
        replace hoc2:=Lib.hid hoc2
        clear hcl2 c0 c1 c2 c3 c4
        go_wp2_with (fail)
        go_roundw
        case rel =>
          have hp:=put5_own own2.out hd.out (.int .i64 x.kind) (.string x.name) (.slice a3 x.attrs.length cap3) (.string x.text) (.slice a4 x.kids.length cap4)
          have hfar:=put5_far w2 w.heap.size i (.int .i64 x.kind) (.string x.name) (.slice a3 x.attrs.length cap3) (.string x.text) (.slice a4 x.kids.length cap4)
          have hsz5:=put5_size w2 w.heap.size i (.int .i64 x.kind) (.string x.name) (.slice a3 x.attrs.length cap3) (.string x.text) (.slice a4 x.kids.length cap4)
          have hbl5:=put5_below hbw w.heap.size i (.int .i64 x.kind) (.string x.name) (.slice a3 x.attrs.length cap3) (.string x.text) (.slice a4 x.kids.length cap4) (Nat.le_refl _)
          have hsW : wr.heap.size + 1 = (wr.alloc (.cells (x.cells (.slice a1 x.attrs.length cap1) (.slice a2 x.kids.length cap2)).toArray 41)).heap.size:=by simp
          rw [← hsW] at hsp2
          refine ⟨i + 1,done ++ [.int .i64 x.kind,.string x.name,.slice a3 x.attrs.length cap3,.string x.text,.slice a4 x.kids.length cap4],Z',F ++ ((Value.slice a3 x.attrs.length cap3).ownBlock.toList ++ ((Value.slice a4 x.kids.length cap4).ownBlock.toList ++ F2)),by omega,by go_num,by simp; have:=hd.out; omega,by have:=hZ.out; simp at this; omega,?_,?_,?_,hbl5⟩
          · exact hp
          · rw [htk.out]
            have k1 : OwnC (put5 w2 w.heap.size i (.int .i64 x.kind) (.string x.name) (.slice a3 x.attrs.length cap3) (.string x.text) (.slice a4 x.kids.length cap4)) done (l.take i) F :=
              OwnC.keep _ _ _ (fun b hb' => (hfar b (by have:=hsp.2 b hb'; omega)).trans (hbw2.block b (hsp.2 b hb').2)) hoc.out
            refine OwnC.append ?_ _ _ _ k1
            have k2:=own_keep oa.out (w':=put5 w2 w.heap.size i (.int .i64 x.kind) (.string x.name) (.slice a3 x.attrs.length cap3) (.string x.text) (.slice a4 x.kids.length cap4)) (fun g hg => hfar g (by have:=(oa.out.lt g hg).1; omega))
            have k3:=own_keep ok.out (w':=put5 w2 w.heap.size i (.int .i64 x.kind) (.string x.name) (.slice a3 x.attrs.length cap3) (.string x.text) (.slice a4 x.kids.length cap4)) (fun g hg => hfar g (by have:=(ok.out.lt g hg).1; omega))
            have k4 : OwnC (put5 w2 w.heap.size i (.int .i64 x.kind) (.string x.name) (.slice a3 x.attrs.length cap3) (.string x.text) (.slice a4 x.kids.length cap4)) zs2 x.kids F2:=OwnC.keep _ _ _ (fun b hb' => hfar b (by have:=hsp2.2 b (by simp [hb']); omega)) hoc2.out
            exact OwnC.cons_iff.2 ⟨_,_,zs2,[],F2,[],rfl,own_base k2 (fun g _ => Nat.zero_le _),own_base k3 (fun g _ => Nat.zero_le _),by simp,k4,OwnC.nil _⟩
          · show Span _ (put5 w2 w.heap.size i (.int .i64 x.kind) (.string x.name) (.slice a3 x.attrs.length cap3) (.string x.text) (.slice a4 x.kids.length cap4)).heap.size _
            rw [hsz5]
            exact Span.append (mid:=wr.heap.size) hsp (hsp2.mono (by omega) (Nat.le_refl _)) (by omega) (by omega)
        case measure => simp [intOf]; omega
      · obtain rfl : i = l.length:=by omega
        have hZ0 : Z = []:=List.eq_nil_of_length_eq_zero (by rw [hZ]; simp)
        subst hZ0
        rw [List.append_nil] at hown
        rw [List.take_length] at hoc
        replace hown:=Lib.hid hown
        replace hoc:=Lib.hid hoc
        clear hd hZ
        go_wp2
        go_ret
        refine ⟨_,rfl,⟨done,F,hown.out,hoc.out,?_⟩,hb⟩
        exact Span.append (mid:=w.heap.size + 1) ⟨by simp [Value.ownBlock],fun b hb' => by simp [Value.ownBlock] at hb'; omega⟩ hsp (by omega) (by omega)
end Go.Proofs.YteefodibpjgicaaGreat
