/- The document's answers of layer 2, the rest: the reference at the beginning, texts decoded, texts written. -/
import Derived.Test.YtafeideihaojfaaRef02
import Derived.Test.YtafeideihaojfaaRef01b
namespace Go.Proofs.Ytafeideihaojfaa
open Go.RowKit

/-- What a call answers of a reference, in numbers. -/
def ansI (o : Option (Int × Nat)) : Value := .tuple #[.int .i64 ((o.map (·.1)).getD 0), .int .i64 (((o.map (·.2)).getD 0 : Nat) : Int)]
theorem ansI_none : ansI none = .tuple #[.int .i64 0, .int .i64 0] := rfl
theorem ansI_some (r : Int) (n : Nat) : ansI (some (r, n)) = .tuple #[.int .i64 r, .int .i64 (n : Int)] := rfl
theorem ansB_none : ansB none = .tuple #[.int .i64 0, .bool false] := rfl
theorem ansB_some (r : Int) : ansB (some r) = .tuple #[.int .i64 r, .bool true] := rfl
theorem ne_byte {c d : UInt8} (h : c ≠ d) : ((c.toNat : Int) == (d.toNat : Int)) = false := by
  simp only [beq_eq_false_iff_ne]
  intro e
  exact h (UInt8.toNat_inj.1 (by omega))

set_option maxHeartbeats 1000000 in
theorem ref02Name' (s : ByteArray) (w : World) :
    Calls Try.prog 14 #[.string s] w fun e w' => e = .returned (ansB ((M2.nm s.data.toList).map Int.ofNat)) ∧ Below w.heap.size w w' := by
  refine (ref02Name s w).mono ?_
  rintro e w' ⟨rfl, h⟩
  refine ⟨?_, h⟩
  cases M2.nm s.data.toList <;> rfl

theorem own_get (o : ByteArray) (k : Nat) (h : k < o.size) : o.data.toList[k]? = some o[k] := List.getElem?_eq_getElem (l := o.data.toList) h
theorem own_list (o : ByteArray) : o.data.toList.length = o.size := rfl
theorem own_two (o : ByteArray) (h : 1 < o.size) : ∃ t, o.data.toList = o[0] :: o[1] :: t := by
  have h0 := own_get o 0 (by omega)
  have h1 := own_get o 1 h
  generalize o.data.toList = l at *
  match l, h0, h1 with
  | a :: b :: t, h0, h1 =>
    simp at h0 h1
    exact ⟨t, by rw [h0, h1]⟩
theorem own_one (o : ByteArray) (h : 0 < o.size) : ∃ t, o.data.toList = o[0] :: t := by
  have h0 := own_get o 0 h
  generalize o.data.toList = l at *
  match l, h0 with
  | a :: t, h0 =>
    simp at h0
    exact ⟨t, by rw [h0]⟩
theorem ownB_16 (o : ByteArray) (h : 1 < o.size) (h0 : o[0] = 35) (h1 : o[1] = 120 ∨ o[1] = 88) : M2.ownB o.data.toList = M2.numR 16 6 (o.extract 2 o.size).data.toList := by
  obtain ⟨t, ht⟩ := own_two o h
  rw [extract_end, ht, M2.ownB, if_pos]
  rw [h0]
  rcases h1 with h1 | h1
  · left; rw [h1]; rfl
  · right; rw [h1]; rfl
theorem ownB_10 (o : ByteArray) (h : 1 < o.size) (h0 : o[0] = 35) (h1 : ¬ o[1] = 120) (h2 : ¬ o[1] = 88) : M2.ownB o.data.toList = M2.numR 10 7 (o.extract 1 o.size).data.toList := by
  obtain ⟨t, ht⟩ := own_two o h
  rw [extract_end, ht, M2.ownB, if_neg, if_pos]
  · rw [h0]; rfl
  · simp [h1, h2]
theorem ownB_10' (o : ByteArray) (h : o.size = 1) (h0 : o[0] = 35) : M2.ownB o.data.toList = M2.numR 10 7 (o.extract 1 o.size).data.toList := by
  obtain ⟨t, ht⟩ := own_one o (by omega)
  have hl := own_list o
  rw [ht] at hl
  have : t = [] := List.eq_nil_of_length_eq_zero (by simp at hl; omega)
  subst this
  rw [extract_end, ht, M2.ownB, if_neg (by simp), if_pos]
  rw [h0]; rfl
theorem ownB_nm (o : ByteArray) (h : 0 < o.size) (h0 : ¬ o[0] = 35) : M2.ownB o.data.toList = (M2.nm o.data.toList).map Int.ofNat := by
  obtain ⟨t, ht⟩ := own_one o h
  rw [ht, M2.ownB, if_neg, if_neg]
  · simp [h0]
  · cases t <;> simp [h0]
theorem ownB_nm0 (o : ByteArray) (h : o.size = 0) : M2.ownB o.data.toList = (M2.nm o.data.toList).map Int.ofNat := by
  have : o.data.toList = [] := List.eq_nil_of_length_eq_zero h
  rw [this]
  rfl
theorem byte_of {c : UInt8} {n : Nat} (h : (c.toNat : Int) = n) (hn : n < 256) : c = n.toUInt8 := by
  apply UInt8.toNat_inj.1
  rw [M1.toNat_u8 n hn]
  omega
theorem byte_no {c : UInt8} {n : Nat} (h : ¬ (c.toNat : Int) = n) (hn : n < 256) : ¬ c = n.toUInt8 := by
  rintro rfl
  rw [M1.toNat_u8 n hn] at h
  exact h rfl

/-- What is answered where the first ; is at place k. -/
def resI (k : Nat) : Option Int → Value
  | none => .tuple #[.int .i64 0, .int .i64 0]
  | some r => .tuple #[.int .i64 r, .int .i64 ((k : Int) + 1)]

set_option maxHeartbeats 8000000 in
set_option maxRecDepth 100000 in
theorem ref02One (s : ByteArray) (w : World) (hs : s.size ≤ 1073741824) :
    Calls Try.prog 12 #[.string s] w fun e w' => e = .returned (ansI (M2.one s.data.toList)) ∧ Below w.heap.size w w' := by
  have hsz : s.data.toList.length = s.size := rfl
  by_cases h0 : s.size = 0
  · have hl : s.data.toList = [] := List.eq_nil_of_length_eq_zero (hsz.trans h0)
    rw [hl, M2.one_not _ (by simp), ansI_none]
    clear hl hsz
    go_enter Try.func12, Try.ntmps12
    go_wp2
    go_ret2
    exact ⟨rfl, Below.refl _ _⟩
  have hpos : 0 < s.size := by omega
  have h0b : ((s.size : Int) == 0) = false := beq_eq_false_iff_ne.2 (by omega)
  have hgt : s.data.toList[0]? = some s[0] := List.getElem?_eq_getElem (l := s.data.toList) hpos
  by_cases h38 : s[0] = 38
  · obtain ⟨t, ht⟩ : ∃ t, s.data.toList = 38 :: t := by
      cases hl : s.data.toList with
      | nil => rw [hl] at hgt; simp at hgt
      | cons c t => rw [hl] at hgt; simp at hgt; rw [hgt, h38]; exact ⟨t, rfl⟩
    generalize hA : M2.one s.data.toList = A
    rw [ht] at hA
    replace hA := Lib.hid hA
    replace ht := Lib.hid ht
    clear h0 hgt hsz
    go_enter Try.func12, Try.ntmps12
    go_wp2
    go_loop [4] (fun i => ∃ k : Nat, 1 ≤ k ∧ k ≤ s.size ∧ i = .int .i64 k ∧ Hid ((59 : UInt8) ∉ t.take (k - 1))) (fun i => s.size - (intOf i).toNat)
    case atStart => exact ⟨1, by omega, by omega, rfl, by show _ ∉ _; simp⟩
    case round =>
      obtain ⟨k, hk1, hk, rfl, hno⟩ := hrel
      by_cases hlt : k < s.size
      · have hget : s.data.toList[k]? = some s[k] := List.getElem?_eq_getElem (l := s.data.toList) hlt
        have htk : t[k - 1]? = some s[k] := by
          rw [ht.out] at hget
          obtain ⟨j, rfl⟩ : ∃ j, k = j + 1 := ⟨k - 1, by omega⟩
          simpa using hget
        clear hget
        by_cases h59 : s[k] = 59
        · rw [h59] at htk
          have hox : (s.extract 1 k).data.toList = t.take (k - 1) := by
            rw [Lib.extract_data, ht.out]
            simp
          have htt : t = t.take (k - 1) ++ 59 :: t.drop (k - 1 + 1) := by
            obtain ⟨h1, h2⟩ := List.getElem?_eq_some_iff.1 htk
            conv => lhs; rw [← List.take_append_drop (k - 1) t, List.drop_eq_getElem_cons h1, h2]
          have hlen : (t.take (k - 1)).length = k - 1 := by
            obtain ⟨h1, h2⟩ := List.getElem?_eq_some_iff.1 htk
            rw [List.length_take]; omega
          have hone := M2.one_own (t.take (k - 1)) (t.drop (k - 1 + 1)) hno.out
          rw [← htt, hA.out, hlen, ← hox] at hone
          have hosz : (s.extract 1 k).size = k - 1 := by rw [ByteArray.size_extract]; omega
          replace hone := Lib.hid hone
          replace hox := Lib.hid hox
          replace hosz := Lib.hid hosz
          clear htt hlen hA htk hno ht
          have hres : ansI A = resI k (M2.ownB (s.extract 1 k).data.toList) := by
            rw [hone.out]
            cases M2.ownB (s.extract 1 k).data.toList with
            | none => rfl
            | some r => simp [ansI, resI]; omega
          replace hres := Lib.hid hres
          clear hone
          have h59c : (s[k].toNat : Int) = 59 := by rw [h59]; rfl
          clear h59
          go_wp2_with fail
          · have hres := hres.out
            have hz := hosz.out
            have hB := ownB_16 (s.extract 1 k) (by omega) (byte_of (n := 35) (by first | assumption | (simpa using (by assumption : ((((s.extract 1 k)[0]'(by omega)).toNat : Int) == 35) = true))) (by decide)) (Or.inl (byte_of (n := 120) (by first | assumption | (simpa using (by assumption : ((((s.extract 1 k)[1]'(by omega)).toNat : Int) == 120) = true))) (by decide)))
            clear hz
            refine (ref02Number ((s.extract 1 k).extract 2 (k - 1)) 16 6 _ (by omega) (by omega) (by omega) (by decide) (by rw [ByteArray.size_extract]; omega)).mono ?_
            rintro e w2 ⟨rfl, rfl⟩
            rw [hB, hosz.out] at hres
            generalize M2.numR 16 6 ((s.extract 1 k).extract 2 (k - 1)).data.toList = B at *
            clear hB
            replace hres := Lib.hid hres
            cases B with
            | none =>
              rw [ansB_none]
              go_wp2
              go_ret2
              rw [hres.out]
              exact ⟨rfl, Below.refl _ _⟩
            | some r =>
              rw [ansB_some]
              go_wp2
              go_ret2
              rw [hres.out]
              exact ⟨rfl, Below.refl _ _⟩
          · have hres := hres.out
            have hz := hosz.out
            have hB := ownB_16 (s.extract 1 k) (by omega) (byte_of (n := 35) (by first | assumption | (simpa using (by assumption : ((((s.extract 1 k)[0]'(by omega)).toNat : Int) == 35) = true))) (by decide)) (Or.inr (byte_of (n := 88) (by have h1 : ¬ (((s.extract 1 k)[1]'(by omega)).toNat : Int) = 120 := (by assumption); have h2 : ((((s.extract 1 k)[1]'(by omega)).toNat : Int) == 120) = true ∨ ((((s.extract 1 k)[1]'(by omega)).toNat : Int) == 88) = true := (by assumption); simpa [h1] using h2) (by decide)))
            clear hz
            refine (ref02Number ((s.extract 1 k).extract 2 (k - 1)) 16 6 _ (by omega) (by omega) (by omega) (by decide) (by rw [ByteArray.size_extract]; omega)).mono ?_
            rintro e w2 ⟨rfl, rfl⟩
            rw [hB, hosz.out] at hres
            generalize M2.numR 16 6 ((s.extract 1 k).extract 2 (k - 1)).data.toList = B at *
            clear hB
            replace hres := Lib.hid hres
            cases B with
            | none =>
              rw [ansB_none]
              go_wp2
              go_ret2
              rw [hres.out]
              exact ⟨rfl, Below.refl _ _⟩
            | some r =>
              rw [ansB_some]
              go_wp2
              go_ret2
              rw [hres.out]
              exact ⟨rfl, Below.refl _ _⟩
          · have hres := hres.out
            have hz := hosz.out
            have hB := ownB_10 (s.extract 1 k) (by omega) (byte_of (n := 35) (by first | assumption | (simpa using (by assumption : ((((s.extract 1 k)[0]'(by omega)).toNat : Int) == 35) = true))) (by decide)) (byte_no (n := 120) (by assumption) (by decide)) (byte_no (n := 88) (by have h2 : ((((s.extract 1 k)[1]'(by omega)).toNat : Int) == 120) = false ∧ ((((s.extract 1 k)[1]'(by omega)).toNat : Int) == 88) = false := (by assumption); simpa using h2.2) (by decide))
            clear hz
            refine (ref02Number ((s.extract 1 k).extract 1 (k - 1)) 10 7 _ (by omega) (by omega) (by omega) (by decide) (by rw [ByteArray.size_extract]; omega)).mono ?_
            rintro e w2 ⟨rfl, rfl⟩
            rw [hB, hosz.out] at hres
            generalize M2.numR 10 7 ((s.extract 1 k).extract 1 (k - 1)).data.toList = B at *
            clear hB
            replace hres := Lib.hid hres
            cases B with
            | none =>
              rw [ansB_none]
              go_wp2
              go_ret2
              rw [hres.out]
              exact ⟨rfl, Below.refl _ _⟩
            | some r =>
              rw [ansB_some]
              go_wp2
              go_ret2
              rw [hres.out]
              exact ⟨rfl, Below.refl _ _⟩
          · have hres := hres.out
            have hz := hosz.out
            have hB := ownB_nm (s.extract 1 k) (by omega) (byte_no (n := 35) (by first | assumption | (simpa using (by assumption : ((((s.extract 1 k)[0]'(by omega)).toNat : Int) == 35) = false))) (by decide))
            clear hz
            refine (ref02Name' (s.extract 1 k) _).mono ?_
            rintro e w2 ⟨rfl, b2⟩
            rw [hB] at hres
            generalize (M2.nm (s.extract 1 k).data.toList).map Int.ofNat = B at *
            clear hB
            replace hres := Lib.hid hres
            cases B with
            | none =>
              rw [ansB_none]
              go_wp2
              go_ret2
              rw [hres.out]
              exact ⟨rfl, b2⟩
            | some r =>
              rw [ansB_some]
              go_wp2
              go_ret2
              rw [hres.out]
              exact ⟨rfl, b2⟩
          · have hres := hres.out
            have hz := hosz.out
            have hB := ownB_10' (s.extract 1 k) (by omega) (byte_of (n := 35) (by first | assumption | (simpa using (by assumption : ((((s.extract 1 k)[0]'(by omega)).toNat : Int) == 35) = true))) (by decide))
            clear hz
            refine (ref02Number ((s.extract 1 k).extract 1 (k - 1)) 10 7 _ (by omega) (by omega) (by omega) (by decide) (by rw [ByteArray.size_extract]; omega)).mono ?_
            rintro e w2 ⟨rfl, rfl⟩
            rw [hB, hosz.out] at hres
            generalize M2.numR 10 7 ((s.extract 1 k).extract 1 (k - 1)).data.toList = B at *
            clear hB
            replace hres := Lib.hid hres
            cases B with
            | none =>
              rw [ansB_none]
              go_wp2
              go_ret2
              rw [hres.out]
              exact ⟨rfl, Below.refl _ _⟩
            | some r =>
              rw [ansB_some]
              go_wp2
              go_ret2
              rw [hres.out]
              exact ⟨rfl, Below.refl _ _⟩
          · have hres := hres.out
            have hz := hosz.out
            have hB := ownB_nm (s.extract 1 k) (by omega) (byte_no (n := 35) (by first | assumption | (simpa using (by assumption : ((((s.extract 1 k)[0]'(by omega)).toNat : Int) == 35) = false))) (by decide))
            clear hz
            refine (ref02Name' (s.extract 1 k) _).mono ?_
            rintro e w2 ⟨rfl, b2⟩
            rw [hB] at hres
            generalize (M2.nm (s.extract 1 k).data.toList).map Int.ofNat = B at *
            clear hB
            replace hres := Lib.hid hres
            cases B with
            | none =>
              rw [ansB_none]
              go_wp2
              go_ret2
              rw [hres.out]
              exact ⟨rfl, b2⟩
            | some r =>
              rw [ansB_some]
              go_wp2
              go_ret2
              rw [hres.out]
              exact ⟨rfl, b2⟩
          · have hres := hres.out
            have hz := hosz.out
            have hB := ownB_nm0 (s.extract 1 k) (by omega)
            clear hz
            refine (ref02Name' (s.extract 1 k) _).mono ?_
            rintro e w2 ⟨rfl, b2⟩
            rw [hB] at hres
            generalize (M2.nm (s.extract 1 k).data.toList).map Int.ofNat = B at *
            clear hB
            replace hres := Lib.hid hres
            cases B with
            | none =>
              rw [ansB_none]
              go_wp2
              go_ret2
              rw [hres.out]
              exact ⟨rfl, b2⟩
            | some r =>
              rw [ansB_some]
              go_wp2
              go_ret2
              rw [hres.out]
              exact ⟨rfl, b2⟩
        · have hne := ne_byte h59
          have hne' : ((s[k].toNat : Int) != 59) = true := by
            have : ((s[k].toNat : Int) == 59) = false := hne
            simpa [bne] using this
          have hno2 : Hid ((59 : UInt8) ∉ t.take (k + 1 - 1)) := by
            show _ ∉ _
            obtain ⟨j, rfl⟩ : ∃ j, k = j + 1 := ⟨k - 1, by omega⟩
            intro hm
            have h1 := hno.out
            simp only [Nat.add_sub_cancel] at hm h1 htk
            obtain ⟨h2, h3⟩ := List.getElem?_eq_some_iff.1 htk
            rw [List.take_succ_eq_append_getElem h2, h3] at hm
            rcases List.mem_append.1 hm with hm | hm
            · exact h1 hm
            · simp at hm; exact h59 hm.symm
          clear htk h59 hne hno
          go_wp2
          go_round
          case rel => exact ⟨k + 1, by omega, by omega, by go_num, hno2⟩
          case measure => simp [intOf]; omega
      · obtain rfl : k = s.size := by omega
        have hA0 : A = none := by
          rw [← hA.out]
          refine M2.one_none t ?_
          have h1 := hno.out
          have h2 : t.length + 1 = s.size := by
            have : s.data.toList.length = s.size := rfl
            rw [ht.out] at this
            simpa using this
          rwa [List.take_of_length_le (by omega)] at h1
        replace hA0 := Lib.hid hA0
        clear hno hA hlt
        go_wp2
        go_ret2
        rw [hA0.out, ansI_none]
        exact ⟨rfl, Below.refl _ _⟩
  · have hb := ne_byte h38
    have hb' : ((s[0].toNat : Int) != 38) = true := by
      have : ((s[0].toNat : Int) == 38) = false := hb
      simpa [bne] using this
    rw [M2.one_not _ (by rw [List.head?_eq_getElem?, hgt]; simpa using h38), ansI_none]
    clear hgt h38 hsz h0 hb
    go_enter Try.func12, Try.ntmps12
    go_wp2
    go_ret2
    exact ⟨rfl, Below.refl _ _⟩
end Go.Proofs.Ytafeideihaojfaa
