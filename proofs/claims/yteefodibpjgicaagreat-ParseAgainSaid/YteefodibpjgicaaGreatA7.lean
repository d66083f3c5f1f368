/- Texts joined: Ref02b, Ref02c. -/
import Derived.Test.YteefodibpjgicaaGreatA5
import Derived.Test.YteefodibpjgicaaGreatA6
namespace Go.Proofs.YteefodibpjgicaaGreat
open Go.RowKit
def ansI (o : Option (Int × Nat)) : Value:=.tuple #[.int .i64 ((o.map (·.1)).getD 0),.int .i64 (((o.map (·.2)).getD 0 : Nat) : Int)]
theorem ansI_none : ansI none = .tuple #[.int .i64 0,.int .i64 0]:=rfl
theorem ansI_some (r : Int) (n : Nat) : ansI (some (r,n)) = .tuple #[.int .i64 r,.int .i64 (n : Int)]:=rfl
theorem ansB_none : ansB none = .tuple #[.int .i64 0,.bool false]:=rfl
theorem ansB_some (r : Int) : ansB (some r) = .tuple #[.int .i64 r,.bool true]:=rfl
theorem ne_byte {c d : UInt8} (h : c ≠ d) : ((c.toNat : Int) == (d.toNat : Int)) = false:=by
  simp only [beq_eq_false_iff_ne]
  intro e
  exact h (UInt8.toNat_inj.1 (by omega))
set_option maxHeartbeats 1000000 in
theorem ref02Name' (s : ByteArray) (w : World) :
    Calls Tryz.prog 100 #[.string s] w fun e w' => e = .returned (ansB ((M2.nm s.data.toList).map Int.ofNat)) ∧ Below w.heap.size w w':=by
  refine (ref02Name s w).mono ?_
  rintro e w' ⟨rfl,h⟩
  refine ⟨?_,h⟩
  cases M2.nm s.data.toList <;> rfl
theorem own_get (o : ByteArray) (k : Nat) (h : k < o.size) : o.data.toList[k]? = some o[k]:=List.getElem?_eq_getElem (l:=o.data.toList) h
theorem own_list (o : ByteArray) : o.data.toList.length = o.size:=rfl
theorem own_two (o : ByteArray) (h : 1 < o.size) : ∃ t,o.data.toList = o[0] :: o[1] :: t:=by
  have h0:=own_get o 0 (by omega)
  have h1:=own_get o 1 h
  generalize o.data.toList = l at *
  match l,h0,h1 with
  | a :: b :: t,h0,h1 =>
    simp at h0 h1
    exact ⟨t,by rw [h0,h1]⟩
theorem own_one (o : ByteArray) (h : 0 < o.size) : ∃ t,o.data.toList = o[0] :: t:=by
  have h0:=own_get o 0 h
  generalize o.data.toList = l at *
  match l,h0 with
  | a :: t,h0 =>
    simp at h0
    exact ⟨t,by rw [h0]⟩
theorem ownB_16 (o : ByteArray) (h : 1 < o.size) (h0 : o[0] = 35) (h1 : o[1] = 120 ∨ o[1] = 88) : M2.ownB o.data.toList = M2.numR 16 6 (o.extract 2 o.size).data.toList:=by
  obtain ⟨t,ht⟩:=own_two o h
  rw [extract_end,ht,M2.ownB,if_pos]
  rw [h0]
  rcases h1 with h1 | h1
  · left; rw [h1]; rfl
  · right; rw [h1]; rfl
theorem ownB_10 (o : ByteArray) (h : 1 < o.size) (h0 : o[0] = 35) (h1 : ¬ o[1] = 120) (h2 : ¬ o[1] = 88) : M2.ownB o.data.toList = M2.numR 10 7 (o.extract 1 o.size).data.toList:=by
  obtain ⟨t,ht⟩:=own_two o h
  rw [extract_end,ht,M2.ownB,if_neg,if_pos]
  · rw [h0]; rfl
  · simp [h1,h2]
theorem ownB_10' (o : ByteArray) (h : o.size = 1) (h0 : o[0] = 35) : M2.ownB o.data.toList = M2.numR 10 7 (o.extract 1 o.size).data.toList:=by
  obtain ⟨t,ht⟩:=own_one o (by omega)
  have hl:=own_list o
  rw [ht] at hl
  have : t = []:=List.eq_nil_of_length_eq_zero (by simp at hl; omega)
  subst this
  rw [extract_end,ht,M2.ownB,if_neg (by simp),if_pos]
  rw [h0]; rfl
theorem ownB_nm (o : ByteArray) (h : 0 < o.size) (h0 : ¬ o[0] = 35) : M2.ownB o.data.toList = (M2.nm o.data.toList).map Int.ofNat:=by
  obtain ⟨t,ht⟩:=own_one o h
  rw [ht,M2.ownB,if_neg,if_neg]
  · simp [h0]
  · cases t <;> simp [h0]
theorem ownB_nm0 (o : ByteArray) (h : o.size = 0) : M2.ownB o.data.toList = (M2.nm o.data.toList).map Int.ofNat:=by
  have : o.data.toList = []:=List.eq_nil_of_length_eq_zero h
  rw [this]
  rfl
theorem byte_of {c : UInt8} {n : Nat} (h : (c.toNat : Int) = n) (hn : n < 256) : c = n.toUInt8:=by
  apply UInt8.toNat_inj.1
  rw [M1.toNat_u8 n hn]
  omega
theorem byte_no {c : UInt8} {n : Nat} (h : ¬ (c.toNat : Int) = n) (hn : n < 256) : ¬ c = n.toUInt8:=by
  rintro rfl
  rw [M1.toNat_u8 n hn] at h
  exact h rfl
def resI (k : Nat) : Option Int → Value
  | none => .tuple #[.int .i64 0,.int .i64 0]
  | some r => .tuple #[.int .i64 r,.int .i64 ((k : Int) + 1)]
set_option maxHeartbeats 8000000 in
set_option maxRecDepth 100000 in
theorem ref02One (s : ByteArray) (w : World) (hs : s.size ≤ 1073741824) :
    Calls Tryz.prog 85 #[.string s] w fun e w' => e = .returned (ansI (M2.one s.data.toList)) ∧ Below w.heap.size w w':=by
  have hsz : s.data.toList.length = s.size:=rfl
  by_cases h0 : s.size = 0
  · have hl : s.data.toList = []:=List.eq_nil_of_length_eq_zero (hsz.trans h0)
    rw [hl,M2.one_not _ (by simp),ansI_none]
    clear hl hsz
    go_enter Tryz.func85,Tryz.ntmps85
    go_wp2
    go_ret2
    exact ⟨rfl,Below.refl _ _⟩
  have hpos : 0 < s.size:=by omega
  have h0b : ((s.size : Int) == 0) = false:=beq_eq_false_iff_ne.2 (by omega)
  have hgt : s.data.toList[0]? = some s[0]:=List.getElem?_eq_getElem (l:=s.data.toList) hpos
  by_cases h38 : s[0] = 38
  · obtain ⟨t,ht⟩ : ∃ t,s.data.toList = 38 :: t:=by
      cases hl : s.data.toList with
      | nil => rw [hl] at hgt; simp at hgt
      | cons c t => rw [hl] at hgt; simp at hgt; rw [hgt,h38]; exact ⟨t,rfl⟩
    generalize hA : M2.one s.data.toList = A
    rw [ht] at hA
    replace hA:=Lib.hid hA
    replace ht:=Lib.hid ht
    clear h0 hgt hsz
    go_enter Tryz.func85,Tryz.ntmps85
    go_wp2
    go_loop [4] (fun i => ∃ k : Nat,1 ≤ k ∧ k ≤ s.size ∧ i = .int .i64 k ∧ Hid ((59 : UInt8) ∉ t.take (k - 1))) (fun i => s.size - (intOf i).toNat)
    case atStart => exact ⟨1,by omega,by omega,rfl,by show _ ∉ _; simp⟩
    case round =>
      obtain ⟨k,hk1,hk,rfl,hno⟩:=hrel
      by_cases hlt : k < s.size
      · have hget : s.data.toList[k]? = some s[k]:=List.getElem?_eq_getElem (l:=s.data.toList) hlt
        have htk : t[k - 1]? = some s[k]:=by
          rw [ht.out] at hget
          obtain ⟨j,rfl⟩ : ∃ j,k = j + 1:=⟨k - 1,by omega⟩
          simpa using hget
        clear hget
        by_cases h59 : s[k] = 59
        · rw [h59] at htk
          have hox : (s.extract 1 k).data.toList = t.take (k - 1):=by
            rw [Lib.extract_data,ht.out]
            simp
          have htt : t = t.take (k - 1) ++ 59 :: t.drop (k - 1 + 1):=by
            obtain ⟨h1,h2⟩:=List.getElem?_eq_some_iff.1 htk
            conv => lhs; rw [← List.take_append_drop (k - 1) t,List.drop_eq_getElem_cons h1,h2]
          have hlen : (t.take (k - 1)).length = k - 1:=by
            obtain ⟨h1,h2⟩:=List.getElem?_eq_some_iff.1 htk
            rw [List.length_take]; omega
          have hone:=M2.one_own (t.take (k - 1)) (t.drop (k - 1 + 1)) hno.out
          rw [← htt,hA.out,hlen,← hox] at hone
          have hosz : (s.extract 1 k).size = k - 1:=by rw [ByteArray.size_extract]; omega
          replace hone:=Lib.hid hone
          replace hox:=Lib.hid hox
          replace hosz:=Lib.hid hosz
          clear htt hlen hA htk hno ht
          have hres : ansI A = resI k (M2.ownB (s.extract 1 k).data.toList):=by
            rw [hone.out]
            cases M2.ownB (s.extract 1 k).data.toList with
            | none => rfl
            | some r => simp [ansI,resI]; omega
          replace hres:=Lib.hid hres
          clear hone
          have h59c : (s[k].toNat : Int) = 59:=by rw [h59]; rfl
          clear h59
          go_wp2_with fail
          · have hres:=hres.out
            have hz:=hosz.out
            have hB:=ownB_16 (s.extract 1 k) (by omega) (byte_of (n:=35) (by first | assumption | (simpa using (by assumption : ((((s.extract 1 k)[0]'(by omega)).toNat : Int) == 35) = true))) (by decide)) (Or.inl (byte_of (n:=120) (by first | assumption | (simpa using (by assumption : ((((s.extract 1 k)[1]'(by omega)).toNat : Int) == 120) = true))) (by decide)))
            clear hz
            refine (ref02Number ((s.extract 1 k).extract 2 (k - 1)) 16 6 _ (by omega) (by omega) (by omega) (by decide) (by rw [ByteArray.size_extract]; omega)).mono ?_
            rintro e w2 ⟨rfl,rfl⟩
            rw [hB,hosz.out] at hres
            generalize M2.numR 16 6 ((s.extract 1 k).extract 2 (k - 1)).data.toList = B at *
            clear hB
            replace hres:=Lib.hid hres
            cases B with
            | none =>
              rw [ansB_none]
              go_wp2
              go_ret2
              rw [hres.out]
              exact ⟨rfl,Below.refl _ _⟩
            | some r =>
              rw [ansB_some]
              go_wp2
              go_ret2
              rw [hres.out]
              exact ⟨rfl,Below.refl _ _⟩
          · have hres:=hres.out
            have hz:=hosz.out
            have hB:=ownB_16 (s.extract 1 k) (by omega) (byte_of (n:=35) (by first | assumption | (simpa using (by assumption : ((((s.extract 1 k)[0]'(by omega)).toNat : Int) == 35) = true))) (by decide)) (Or.inr (byte_of (n:=88) (by have h1 : ¬ (((s.extract 1 k)[1]'(by omega)).toNat : Int) = 120:=(by assumption); have h2 : ((((s.extract 1 k)[1]'(by omega)).toNat : Int) == 120) = true ∨ ((((s.extract 1 k)[1]'(by omega)).toNat : Int) == 88) = true:=(by assumption); simpa [h1] using h2) (by decide)))
            clear hz
            refine (ref02Number ((s.extract 1 k).extract 2 (k - 1)) 16 6 _ (by omega) (by omega) (by omega) (by decide) (by rw [ByteArray.size_extract]; omega)).mono ?_
            rintro e w2 ⟨rfl,rfl⟩
            rw [hB,hosz.out] at hres
            generalize M2.numR 16 6 ((s.extract 1 k).extract 2 (k - 1)).data.toList = B at *
            clear hB
            replace hres:=Lib.hid hres
            cases B with
            | none =>
              rw [ansB_none]
              go_wp2
              go_ret2
              rw [hres.out]
              exact ⟨rfl,Below.refl _ _⟩
            | some r =>
              rw [ansB_some]
              go_wp2
              go_ret2
              rw [hres.out]
              exact ⟨rfl,Below.refl _ _⟩
          · have hres:=hres.out
            have hz:=hosz.out
            have hB:=ownB_10 (s.extract 1 k) (by omega) (byte_of (n:=35) (by first | assumption | (simpa using (by assumption : ((((s.extract 1 k)[0]'(by omega)).toNat : Int) == 35) = true))) (by decide)) (byte_no (n:=120) (by assumption) (by decide)) (byte_no (n:=88) (by have h2 : ((((s.extract 1 k)[1]'(by omega)).toNat : Int) == 120) = false ∧ ((((s.extract 1 k)[1]'(by omega)).toNat : Int) == 88) = false:=(by assumption); simpa using h2.2) (by decide))
            clear hz
            refine (ref02Number ((s.extract 1 k).extract 1 (k - 1)) 10 7 _ (by omega) (by omega) (by omega) (by decide) (by rw [ByteArray.size_extract]; omega)).mono ?_
            rintro e w2 ⟨rfl,rfl⟩
            rw [hB,hosz.out] at hres
            generalize M2.numR 10 7 ((s.extract 1 k).extract 1 (k - 1)).data.toList = B at *
            clear hB
            replace hres:=Lib.hid hres
            cases B with
            | none =>
              rw [ansB_none]
              go_wp2
              go_ret2
              rw [hres.out]
              exact ⟨rfl,Below.refl _ _⟩
            | some r =>
              rw [ansB_some]
              go_wp2
              go_ret2
              rw [hres.out]
              exact ⟨rfl,Below.refl _ _⟩
          · have hres:=hres.out
            have hz:=hosz.out
            have hB:=ownB_nm (s.extract 1 k) (by omega) (byte_no (n:=35) (by first | assumption | (simpa using (by assumption : ((((s.extract 1 k)[0]'(by omega)).toNat : Int) == 35) = false))) (by decide))
            clear hz
            refine (ref02Name' (s.extract 1 k) _).mono ?_
            rintro e w2 ⟨rfl,b2⟩
            rw [hB] at hres
            generalize (M2.nm (s.extract 1 k).data.toList).map Int.ofNat = B at *
            clear hB
            replace hres:=Lib.hid hres
            cases B with
            | none =>
              rw [ansB_none]
              go_wp2
              go_ret2
              rw [hres.out]
              exact ⟨rfl,b2⟩
            | some r =>
              rw [ansB_some]
              go_wp2
              go_ret2
              rw [hres.out]
              exact ⟨rfl,b2⟩
          · have hres:=hres.out
            have hz:=hosz.out
            have hB:=ownB_10' (s.extract 1 k) (by omega) (byte_of (n:=35) (by first | assumption | (simpa using (by assumption : ((((s.extract 1 k)[0]'(by omega)).toNat : Int) == 35) = true))) (by decide))
            clear hz
            refine (ref02Number ((s.extract 1 k).extract 1 (k - 1)) 10 7 _ (by omega) (by omega) (by omega) (by decide) (by rw [ByteArray.size_extract]; omega)).mono ?_
            rintro e w2 ⟨rfl,rfl⟩
            rw [hB,hosz.out] at hres
            generalize M2.numR 10 7 ((s.extract 1 k).extract 1 (k - 1)).data.toList = B at *
            clear hB
            replace hres:=Lib.hid hres
            cases B with
            | none =>
              rw [ansB_none]
              go_wp2
              go_ret2
              rw [hres.out]
              exact ⟨rfl,Below.refl _ _⟩
            | some r =>
              rw [ansB_some]
              go_wp2
              go_ret2
              rw [hres.out]
              exact ⟨rfl,Below.refl _ _⟩
          · have hres:=hres.out
            have hz:=hosz.out
            have hB:=ownB_nm (s.extract 1 k) (by omega) (byte_no (n:=35) (by first | assumption | (simpa using (by assumption : ((((s.extract 1 k)[0]'(by omega)).toNat : Int) == 35) = false))) (by decide))
            clear hz
            refine (ref02Name' (s.extract 1 k) _).mono ?_
            rintro e w2 ⟨rfl,b2⟩
            rw [hB] at hres
            generalize (M2.nm (s.extract 1 k).data.toList).map Int.ofNat = B at *
            clear hB
            replace hres:=Lib.hid hres
            cases B with
            | none =>
              rw [ansB_none]
              go_wp2
              go_ret2
              rw [hres.out]
              exact ⟨rfl,b2⟩
            | some r =>
              rw [ansB_some]
              go_wp2
              go_ret2
              rw [hres.out]
              exact ⟨rfl,b2⟩
          · have hres:=hres.out
            have hz:=hosz.out
            have hB:=ownB_nm0 (s.extract 1 k) (by omega)
            clear hz
            refine (ref02Name' (s.extract 1 k) _).mono ?_
            rintro e w2 ⟨rfl,b2⟩
            rw [hB] at hres
            generalize (M2.nm (s.extract 1 k).data.toList).map Int.ofNat = B at *
            clear hB
            replace hres:=Lib.hid hres
            cases B with
            | none =>
              rw [ansB_none]
              go_wp2
              go_ret2
              rw [hres.out]
              exact ⟨rfl,b2⟩
            | some r =>
              rw [ansB_some]
              go_wp2
              go_ret2
              rw [hres.out]
              exact ⟨rfl,b2⟩
        · have hne:=ne_byte h59
          have hne' : ((s[k].toNat : Int) != 59) = true:=by
            have : ((s[k].toNat : Int) == 59) = false:=hne
            simpa [bne] using this
          have hno2 : Hid ((59 : UInt8) ∉ t.take (k + 1 - 1)):=by
            show _ ∉ _
            obtain ⟨j,rfl⟩ : ∃ j,k = j + 1:=⟨k - 1,by omega⟩
            intro hm
            have h1:=hno.out
            simp only [Nat.add_sub_cancel] at hm h1 htk
            obtain ⟨h2,h3⟩:=List.getElem?_eq_some_iff.1 htk
            rw [List.take_succ_eq_append_getElem h2,h3] at hm
            rcases List.mem_append.1 hm with hm | hm
            · exact h1 hm
            · simp at hm; exact h59 hm.symm
          clear htk h59 hne hno
          go_wp2
          go_round
          case rel => exact ⟨k + 1,by omega,by omega,by go_num,hno2⟩
          case measure => simp [intOf]; omega
      · obtain rfl : k = s.size:=by omega
        have hA0 : A = none:=by
          rw [← hA.out]
          refine M2.one_none t ?_
          have h1:=hno.out
          have h2 : t.length + 1 = s.size:=by
            have : s.data.toList.length = s.size:=rfl
            rw [ht.out] at this
            simpa using this
          rwa [List.take_of_length_le (by omega)] at h1
        replace hA0:=Lib.hid hA0
        clear hno hA hlt
        go_wp2
        go_ret2
        rw [hA0.out,ansI_none]
        exact ⟨rfl,Below.refl _ _⟩
  · have hb:=ne_byte h38
    have hb' : ((s[0].toNat : Int) != 38) = true:=by
      have : ((s[0].toNat : Int) == 38) = false:=hb
      simpa [bne] using this
    rw [M2.one_not _ (by rw [List.head?_eq_getElem?,hgt]; simpa using h38),ansI_none]
    clear hgt h38 hsz h0 hb
    go_enter Tryz.func85,Tryz.ntmps85
    go_wp2
    go_ret2
    exact ⟨rfl,Below.refl _ _⟩
end Go.Proofs.YteefodibpjgicaaGreat

namespace Go.Proofs.YteefodibpjgicaaGreat
open Go.RowKit
theorem cat_mk (a : List UInt8) (b : ByteArray) : (⟨a.toArray⟩ : ByteArray) ++ b = ⟨(a ++ b.data.toList).toArray⟩:=by
  apply ByteArray.ext
  simp
theorem str_val {a b : ByteArray} (h : a = b) : Value.string a = .string b:=by rw [h]
theorem dec_step (l : List UInt8) (k : Nat) (h : k < l.length) : M2.decode (l.drop k) = match M2.one (l.drop k) with | none => l[k] :: M2.decode (l.drop (k + 1)) | some p => M1.enc p.1 ++ M2.decode (l.drop (k + p.2)):=by
  cases ho : M2.one (l.drop k) with
  | none =>
    have e : l.drop k = l[k] :: l.drop (k + 1):=List.drop_eq_getElem_cons h
    rw [e] at ho ⊢
    exact M2.decode_byte ho
  | some p =>
    obtain ⟨r,n⟩:=p
    rw [M2.decode_ref ho,List.drop_drop]
set_option maxHeartbeats 4000000 in
set_option maxRecDepth 100000 in
theorem ref02Decode (s : ByteArray) (w : World) (hs : s.size ≤ 1073741824) :
    Calls Tryz.prog 67 #[.string s] w fun e w' => e = .returned (.string ⟨(M2.decode s.data.toList).toArray⟩) ∧ Below w.heap.size w w':=by
  have hfr:=fun (r : Int) (wr : World) => Sl.fresh' wr 21 [.int .i32 r] 1 rfl (by omega)
  have hbl:=fun (wr : World) (o : Obj) => (Below.refl wr.heap.size wr).alloc (Nat.le_refl _) o
  replace hfr:=Lib.hid hfr
  replace hbl:=Lib.hid hbl
  generalize hD : M2.decode s.data.toList = D
  replace hD:=Lib.hid hD
  go_enter Tryz.func67,Tryz.ntmps67
  go_wp2
  go_loopw [3,4] (fun o i wr => ∃ (k : Nat) (acc : List UInt8),k ≤ s.size ∧ i = .int .i64 k ∧ o = .string ⟨acc.toArray⟩ ∧ acc.length ≤ 4 * k ∧ Below w.heap.size w wr ∧ Hid (D = acc ++ M2.decode (s.data.toList.drop k))) (fun _ i _ => s.size - (intOf i).toNat)
  case atStart => exact ⟨0,[],by omega,rfl,rfl,by simp,Below.refl _ _,hD.out.symm⟩
  case round =>
    obtain ⟨k,acc,hk,rfl,rfl,hal,hbw,hacc⟩:=hrel
    by_cases hlt : k < s.size
    · have hst:=dec_step s.data.toList k hlt
      have hx : (s.extract k s.size).data.toList = s.data.toList.drop k:=extract_end s k
      have hz : (s.extract k s.size).size ≤ 1073741824:=by rw [ByteArray.size_extract]; omega
      have hO:=ref02One (s.extract k s.size) wr hz
      rw [hx] at hO
      have hbd:=fun r n => M2.one_bd (l:=s.data.toList.drop k) (r:=r) (n:=n)
      rw [List.length_drop,show s.data.toList.length = s.size from rfl] at hbd
      generalize M2.one (s.data.toList.drop k) = R at *
      have hx1 : (s.extract k (k + 1)).data.toList = [s[k]]:=by
        rw [Lib.extract_data,show s.data.toList.drop k = s[k] :: s.data.toList.drop (k + 1) from List.drop_eq_getElem_cons hlt]
        simp
      replace hO:=Lib.hid hO
      replace hx1:=Lib.hid hx1
      clear hx hz
      cases R with
      | none =>
        have hacc2 : Hid (D = (acc ++ (s.extract k (k + 1)).data.toList) ++ M2.decode (s.data.toList.drop (k + 1))):=by
          show _ = _
          rw [hacc.out,hst,hx1.out]
          simp only [List.append_assoc,List.singleton_append]
          rfl
        have hal2 : (acc ++ (s.extract k (k + 1)).data.toList).length ≤ 4 * (k + 1):=by
          rw [hx1.out]; simp; omega
        clear hst hbd hacc hx1
        rw [ansI_none] at hO
        go_wp2_with fail
        refine hO.out.mono ?_
        rintro e w2 ⟨rfl,b2⟩
        go_wp2
        go_roundw
        case rel => exact ⟨k + 1,_,by omega,by go_num,str_val (cat_mk _ _),hal2,bt hbw b2,hacc2⟩
        case measure => simp [intOf]; omega
      | some p =>
        obtain ⟨r,n⟩:=p
        obtain ⟨hn2,hnl,hok,_,_⟩:=hbd r n rfl
        have hrr : 0 ≤ r ∧ r ≤ 1114111:=by unfold M1.okRune at hok; omega
        obtain ⟨hr0,hr1⟩:=hrr
        have hel:=M2.enc_len_le r
        have htx : M1.text [r] = M1.enc r:=by simp [M1.text]
        have hacc2 : Hid (D = (acc ++ M1.text [r]) ++ M2.decode (s.data.toList.drop (k + n))):=by
          show _ = _
          rw [hacc.out,hst,htx,List.append_assoc]
        have hal2 : (acc ++ M1.text [r]).length ≤ 4 * (k + n):=by
          rw [List.length_append,htx]; omega
        have htl : (M1.text [r]).length ≤ 4:=by rw [htx]; exact hel.1
        clear hst hbd hacc hx1 hok htx
        rw [ansI_some] at hO
        have hn0 : ((n : Int) == 0) = false:=beq_eq_false_iff_ne.2 (by omega)
        go_wp2_with fail
        refine hO.out.mono ?_
        rintro e w2 ⟨rfl,b2⟩
        go_wp2_with fail
        refine (ref01Text _ [r] _ (hfr.out r w2) (by intro x hx; simp at hx; omega) (by simp)).mono ?_
        rintro e w3 ⟨rfl,b3⟩
        have B3:=bt (bt hbw b2) (bt (hbl.out w2 _) b3)
        go_wp2
        go_roundw
        case rel => exact ⟨k + n,_,by omega,by go_num,str_val (cat_mk _ _),hal2,B3,hacc2⟩
        case measure => simp [intOf]; omega
    · obtain rfl : k = s.size:=by omega
      have h:=hacc.out
      rw [show s.data.toList.drop s.size = [] from List.drop_of_length_le (Nat.le_refl _),M2.decode_nil,List.append_nil] at h
      replace h:=Lib.hid h
      clear hacc hlt
      go_wp2
      go_ret
      rw [h.out]
      exact ⟨rfl,hbw⟩
set_option maxHeartbeats 4000000 in
set_option maxRecDepth 100000 in
theorem ref02Escape (s : ByteArray) (v : Bool) (w : World) (hs : s.size ≤ 1073741824) :
    Calls Tryz.prog 61 #[.string s,.bool v] w fun e w' => e = .returned (.string ⟨(M2.escape v s.data.toList).toArray⟩) ∧ w' = w:=by
  go_enter Tryz.func61,Tryz.ntmps61
  go_wp2
  go_loop [5,6] (fun o i => ∃ k : Nat,k ≤ s.size ∧ i = .int .i64 k ∧ o = .string ⟨(M2.escape v (s.data.toList.take k)).toArray⟩) (fun _ i => s.size - (intOf i).toNat)
  case atStart => exact ⟨0,by omega,rfl,rfl⟩
  case round =>
    obtain ⟨k,hk,rfl,rfl⟩:=hrel
    by_cases hlt : k < s.size
    · have htk : M2.escape v (s.data.toList.take (k + 1)) = M2.escape v (s.data.toList.take k) ++ M2.esc v s[k]:=by
        rw [show s.data.toList.take (k + 1) = s.data.toList.take k ++ [s[k]] from List.take_succ_eq_append_getElem (l:=s.data.toList) hlt,M2.escape_append]
        simp [M2.escape]
      have hx1 : (s.extract k (k + 1)).data.toList = [s[k]]:=by
        rw [Lib.extract_data,show s.data.toList.drop k = s[k] :: s.data.toList.drop (k + 1) from List.drop_eq_getElem_cons hlt]
        simp
      have hlen:=M2.escape_len v (s.data.toList.take k)
      have hle1 : (s.data.toList.take k).length ≤ k:=List.length_take_le _ _
      have fin : ∀ (add : ByteArray),M2.esc v s[k] = add.data.toList → (⟨(M2.escape v (s.data.toList.take k)).toArray⟩ : ByteArray) ++ add = ⟨(M2.escape v (s.data.toList.take (k + 1))).toArray⟩:=by
        intro add h
        rw [htk,h,cat_mk]
      replace fin:=Lib.hid fin
      clear htk
      by_cases h38 : s[k] = 38
      · have F:=Lib.hid (fin.out ⟨#[38,97,109,112,59]⟩ (by rw [h38]; rfl))
        clear fin hx1
        go_wp2
        go_round
        case rel => exact ⟨k + 1,by omega,by go_num,str_val F.out⟩
        case measure => simp [intOf]; omega
      have h38b : ((s[k].toNat : Int) == 38) = false:=ne_byte (d:=38) h38
      by_cases h60 : s[k] = 60
      · have F:=Lib.hid (fin.out ⟨#[38,108,116,59]⟩ (by rw [h60]; rfl))
        clear fin hx1 h38
        go_wp2
        go_round
        case rel => exact ⟨k + 1,by omega,by go_num,str_val F.out⟩
        case measure => simp [intOf]; omega
      have h60b : ((s[k].toNat : Int) == 60) = false:=ne_byte (d:=60) h60
      by_cases h62 : s[k] = 62
      · have F:=Lib.hid (fin.out ⟨#[38,103,116,59]⟩ (by rw [h62]; rfl))
        clear fin hx1 h38 h60
        go_wp2
        go_round
        case rel => exact ⟨k + 1,by omega,by go_num,str_val F.out⟩
        case measure => simp [intOf]; omega
      have h62b : ((s[k].toNat : Int) == 62) = false:=ne_byte (d:=62) h62
      by_cases h34 : s[k] = 34
      · cases v
        · have F:=Lib.hid (fin.out (s.extract k (k + 1)) (by rw [hx1,h34]; rfl))
          clear fin hx1 h38 h60 h62
          go_wp2
          go_round
          case rel => exact ⟨k + 1,by omega,by go_num,str_val F.out⟩
          case measure => simp [intOf]; omega
        · have F:=Lib.hid (fin.out ⟨#[38,113,117,111,116,59]⟩ (by rw [h34]; rfl))
          clear fin hx1 h38 h60 h62
          go_wp2
          go_round
          case rel => exact ⟨k + 1,by omega,by go_num,str_val F.out⟩
          case measure => simp [intOf]; omega
      have h34b : ((s[k].toNat : Int) == 34) = false:=ne_byte (d:=34) h34
      have F:=Lib.hid (fin.out (s.extract k (k + 1)) (by rw [hx1,M2.esc,if_neg h38,if_neg h60,if_neg h62,if_neg (fun e => h34 e.1)]))
      clear fin hx1 h38 h60 h62 h34
      go_wp2
      go_round
      case rel => exact ⟨k + 1,by omega,by go_num,str_val F.out⟩
      case measure => simp [intOf]; omega
    · obtain rfl : k = s.size:=by omega
      have ht : s.data.toList.take s.size = s.data.toList:=List.take_of_length_le (Nat.le_refl _)
      replace ht:=Lib.hid ht
      clear hlt
      go_wp2
      go_ret
      rw [ht.out]
      exact ⟨rfl,rfl⟩
end Go.Proofs.YteefodibpjgicaaGreat
