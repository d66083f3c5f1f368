/- The statements of layer 2: each law's walk. -/
import Derived.Test.YtafeideihaojfaaRef02c
import Derived.Test.YtafeideihaojfaaRef01c
import Derived.Test.YtafeideihaojfaaRefs2
import Derived.Test.YtafeideihaojfaaUtf
namespace Go.Proofs.Ytafeideihaojfaa
open Go.RowKit

set_option maxHeartbeats 1000000 in
theorem law02Few (s : ByteArray) (w : World) :
    Calls Try.prog 10 #[.string s] w fun e w' => ∃ t : ByteArray, e = .returned (.string t) ∧ t.size ≤ 200 ∧ w' = w := by
  by_cases h : 200 < s.size
  · have hx : Hid ((s.extract 0 200).size ≤ 200) := by
      show _ ≤ _
      rw [ByteArray.size_extract]; omega
    go_enter Try.func10, Try.ntmps10
    go_wp2
    go_ret
    exact ⟨_, rfl, hx.out, rfl⟩
  · go_enter Try.func10, Try.ntmps10
    go_wp2
    go_ret
    exact ⟨_, rfl, by omega, rfl⟩

theorem str_back (t : ByteArray) : (⟨t.data.toList.toArray⟩ : ByteArray) = t := by
  apply ByteArray.ext
  simp

theorem decode_ex : M2.decode [97, 38, 108, 116, 59, 38, 35, 120, 50, 48, 65, 67, 59, 38, 110, 111, 59] = [97, 60, 226, 130, 172, 38, 110, 111, 59] := by
  rw [M2.decode_plain _ (by decide), M2.decode_ref (r := 60) (n := 4) (by decide), show List.drop 4 ([38, 108, 116, 59, 38, 35, 120, 50, 48, 65, 67, 59, 38, 110, 111, 59] : List UInt8) = [38, 35, 120, 50, 48, 65, 67, 59, 38, 110, 111, 59] from rfl,
    M2.decode_ref (r := 8364) (n := 8) (by decide), show List.drop 8 ([38, 35, 120, 50, 48, 65, 67, 59, 38, 110, 111, 59] : List UInt8) = [38, 110, 111, 59] from rfl,
    M2.decode_byte (c := 38) (by decide), M2.decode_self _ (by decide)]
  decide

set_option maxHeartbeats 1000000 in
set_option maxRecDepth 100000 in
theorem law02Lives (w : World) : Calls Try.prog 15 #[] w fun e w' => e = .returned (.bool true) ∧ Below w.heap.size w w' := by
  have hD := fun w => refsDecode ⟨#[97, 38, 108, 116, 59, 38, 35, 120, 50, 48, 65, 67, 59, 38, 110, 111, 59]⟩ w (by decide)
  have hE := fun w => refsEscape ⟨#[60]⟩ false w (by decide)
  simp only [decode_ex] at hD
  replace hD := Lib.hid hD
  replace hE := Lib.hid hE
  go_enter Try.func15, Try.ntmps15
  go_wp2_with fail
  refine (hD.out _).mono ?_
  rintro e w1 ⟨rfl, b1⟩
  go_wp2_with fail
  refine (hE.out _).mono ?_
  rintro e w2 ⟨rfl, b2⟩
  rw [show M2.escape false (ByteArray.mk #[60]).data.toList = [38, 108, 116, 59] by decide]
  go_wp2
  go_ret
  exact ⟨rfl, bt b1 b2⟩

set_option maxHeartbeats 2000000 in
set_option maxRecDepth 100000 in
theorem law02RefsOne (s : ByteArray) (w : World) :
    Calls Try.prog 3 #[.string s] w fun e w' => e = .returned (.bool true) ∧ Below w.heap.size w w' := by
  go_enter Try.func3, Try.ntmps3
  go_wp2_with fail
  refine (law02Few s w).mono ?_
  rintro e w0 ⟨t, rfl, ht, rfl⟩
  have hr := M2.oneR_bd t.data.toList
  have h1 := refsOne t w0 (by omega)
  have h2 := fun w => ref02One t w (by omega)
  have h3 := fun w => refsName t w (by omega)
  have h4 := fun w => ref02Name t w
  have hnm : 0 ≤ (((M2.nm t.data.toList).getD 0 : Nat) : Int) ∧ (((M2.nm t.data.toList).getD 0 : Nat) : Int) ≤ 1114111 := by
    cases h : M2.nm t.data.toList with
    | none => simp
    | some n =>
      have := (M2.tbl_facts _ (M2.nm_mem h)).2.2.2.2.1
      unfold M1.okRune at this
      simp; omega
  unfold ans at h1
  unfold ansI at h2
  unfold M2.oneR at hr
  generalize ((M2.one t.data.toList).map (·.1)).getD 0 = x at *
  generalize ((M2.one t.data.toList).map (·.2)).getD 0 = n at *
  generalize (((M2.nm t.data.toList).getD 0 : Nat) : Int) = y at *
  generalize (M2.nm t.data.toList).isSome = q at *
  obtain ⟨x0, x1⟩ := hr
  obtain ⟨y0, y1⟩ := hnm
  replace h1 := Lib.hid h1
  replace h2 := Lib.hid h2
  replace h3 := Lib.hid h3
  replace h4 := Lib.hid h4
  go_wp2_with fail
  refine h1.out.mono ?_
  rintro e w1 ⟨rfl, b1⟩
  go_wp2_with fail
  refine (h2.out w1).mono ?_
  rintro e w2 ⟨rfl, b2⟩
  go_wp2_with fail
  refine (h3.out w2).mono ?_
  rintro e w3 ⟨rfl, b3⟩
  go_wp2_with fail
  refine (h4.out w3).mono ?_
  rintro e w4 ⟨rfl, b4⟩
  go_wp2_with fail
  refine (law02Lives w4).mono ?_
  rintro e w5 ⟨rfl, b5⟩
  go_wp2
  go_ret
  exact ⟨rfl, bt (bt (bt (bt b1 b2) b3) b4) b5⟩

set_option maxHeartbeats 2000000 in
set_option maxRecDepth 100000 in
theorem law02RefsDecodes (s : ByteArray) (w : World) :
    Calls Try.prog 4 #[.string s] w fun e w' => e = .returned (.bool true) ∧ Below w.heap.size w w' := by
  go_enter Try.func4, Try.ntmps4
  go_wp2_with fail
  refine (law02Few s w).mono ?_
  rintro e w0 ⟨t, rfl, ht, rfl⟩
  go_wp2_with fail
  refine (refsDecode t w0 (by omega)).mono ?_
  rintro e w1 ⟨rfl, b1⟩
  go_wp2_with fail
  refine (ref02Decode t w1 (by omega)).mono ?_
  rintro e w2 ⟨rfl, b2⟩
  go_wp2_with fail
  refine (law02Lives w2).mono ?_
  rintro e w3 ⟨rfl, b3⟩
  go_wp2
  go_ret
  exact ⟨rfl, bt (bt b1 b2) b3⟩

set_option maxHeartbeats 2000000 in
set_option maxRecDepth 100000 in
theorem law02RefsWrites (s : ByteArray) (v : Bool) (w : World) :
    Calls Try.prog 5 #[.string s, .bool v] w fun e w' => e = .returned (.bool true) ∧ Below w.heap.size w w' := by
  go_enter Try.func5, Try.ntmps5
  go_wp2_with fail
  refine (law02Few s w).mono ?_
  rintro e w0 ⟨t, rfl, ht, rfl⟩
  have hde := M2.decode_escape v t.data.toList
  have hle := M2.escape_len v t.data.toList
  have htl : t.data.toList.length = t.size := rfl
  go_wp2_with fail
  refine (refsEscape t v w0 (by omega)).mono ?_
  rintro e w1 ⟨rfl, b1⟩
  go_wp2_with fail
  refine (ref02Escape t v w1 (by omega)).mono ?_
  rintro e w2 ⟨rfl, hw⟩
  have hD := fun w => refsDecode ⟨(M2.escape v t.data.toList).toArray⟩ w (show (M2.escape v t.data.toList).length ≤ _ by omega)
  rw [show (ByteArray.mk (M2.escape v t.data.toList).toArray).data.toList = M2.escape v t.data.toList from rfl, hde] at hD
  rw [str_back t] at hD
  replace hD := Lib.hid hD
  clear hde htl
  subst hw
  go_wp2_with fail
  refine (hD.out _).mono ?_
  rintro e w3 ⟨rfl, b3⟩
  go_wp2_with fail
  refine (law02Lives w3).mono ?_
  rintro e w4 ⟨rfl, b4⟩
  go_wp2
  go_ret
  exact ⟨rfl, bt (bt b1 b3) b4⟩

set_option maxHeartbeats 2000000 in
set_option maxRecDepth 100000 in
theorem law02RefsRight (v : Value) (l : List UInt8) (w : World) (hs : Sl w v (u8s l)) :
    Calls Try.prog 6 #[v] w fun e w' => e = .returned (.bool true) ∧ Below w.heap.size w w' := by
  have hc1 := conv_back hs
  go_enter Try.func6, Try.ntmps6
  go_wp2_with fail
  refine (law02Few ⟨l.toArray⟩ w).mono ?_
  rintro e w0 ⟨t, rfl, ht, rfl⟩
  obtain ⟨x1, w1, hc2, s1, b1⟩ := conv_bytes w0 t (by omega)
  have htl : t.data.toList.length = t.size := rfl
  have hrl := M1.right_len t.data.toList
  have hib := M1.isB_right t.data.toList
  go_wp2_with fail
  refine (ref01Right x1 _ w1 s1 (by omega)).mono ?_
  rintro e w2 ⟨rfl, b2⟩
  have hR : (M1.right t.data.toList).length ≤ 800 := by omega
  clear hrl htl
  generalize M1.right t.data.toList = r at *
  have hr1 : (ByteArray.mk r.toArray).size ≤ 800 := hR
  have hdl := M2.decode_len r.length r (Nat.le_refl _)
  have hel := M2.escape_len true r
  have hI1 := fun w => utfIs ⟨(M2.decode r).toArray⟩ w (show (M2.decode r).length ≤ _ by omega)
  have hI2 := fun w => utfIs ⟨(M2.escape true r).toArray⟩ w (show (M2.escape true r).length ≤ _ by omega)
  rw [show (ByteArray.mk (M2.decode r).toArray).data.toList = M2.decode r from rfl, M2.isB_decode r hib] at hI1
  rw [show (ByteArray.mk (M2.escape true r).toArray).data.toList = M2.escape true r from rfl, M2.isB_escape r hib] at hI2
  replace hI1 := Lib.hid hI1
  replace hI2 := Lib.hid hI2
  clear hib
  go_wp2_with fail
  refine (refsDecode ⟨r.toArray⟩ w2 (by omega)).mono ?_
  rintro e w3 ⟨rfl, b3⟩
  go_wp2_with fail
  refine (hI1.out w3).mono ?_
  rintro e w4 ⟨rfl, b4⟩
  go_wp2_with fail
  refine (refsEscape ⟨r.toArray⟩ true w4 (by omega)).mono ?_
  rintro e w5 ⟨rfl, b5⟩
  go_wp2_with fail
  refine (hI2.out w5).mono ?_
  rintro e w6 ⟨rfl, b6⟩
  go_wp2_with fail
  refine (law02Lives w6).mono ?_
  rintro e w7 ⟨rfl, b7⟩
  go_wp2
  go_ret
  exact ⟨rfl, bt (bt (bt (bt (bt (bt b1 b2) b3) b4) b5) b6) b7⟩

theorem extract_upto (s : ByteArray) (k : Nat) : (s.extract 0 k).data.toList = s.data.toList.take k := by rw [Lib.extract_data]; simp

set_option maxHeartbeats 4000000 in
set_option maxRecDepth 100000 in
theorem law02RefsJoins (a b : ByteArray) (v : Bool) (w : World) :
    Calls Try.prog 8 #[.string a, .string b, .bool v] w fun e w' => e = .returned (.bool true) ∧ Below w.heap.size w w' := by
  go_enter Try.func8, Try.ntmps8
  go_wp2_with fail
  · have hA : (a.extract 0 100).size ≤ 100 := (by rw [ByteArray.size_extract]; omega)
    have hB : (b.extract 0 100).size ≤ 100 := (by rw [ByteArray.size_extract]; omega)
    generalize a.extract 0 100 = A at *
    generalize b.extract 0 100 = B at *
    have lA := own_list A
    have lB := own_list B
    have eA := M2.escape_len v A.data.toList
    have eB := M2.escape_len v B.data.toList
    have hcat : (A ++ B).data.toList = A.data.toList ++ B.data.toList := by simp
    have hcz : (A ++ B).size ≤ 200 := by rw [ByteArray.size_append]; omega
    have hE := fun w => refsEscape (A ++ B) v w (by omega)
    have hD : ∀ w, Calls Try.prog 16 #[.string ⟨(M2.escape v A.data.toList ++ M2.escape v B.data.toList).toArray⟩] w fun e w' => e = .returned (.string (A ++ B)) ∧ Below w.heap.size w w' := fun w => by
      have h := refsDecode ⟨(M2.escape v A.data.toList ++ M2.escape v B.data.toList).toArray⟩ w (show (M2.escape v A.data.toList ++ M2.escape v B.data.toList).length ≤ _ by rw [List.length_append]; omega)
      rw [show (ByteArray.mk (M2.escape v A.data.toList ++ M2.escape v B.data.toList).toArray).data.toList = M2.escape v A.data.toList ++ M2.escape v B.data.toList from rfl, M2.decode_escape_past, show M2.decode (M2.escape v B.data.toList) = B.data.toList from M2.decode_escape v _, ← hcat, str_back] at h
      exact h
    rw [hcat, M2.escape_append] at hE
    replace hE := Lib.hid hE
    replace hD := Lib.hid hD
    clear hcat lA lB
    refine (refsEscape A v w (by omega)).mono ?_
    rintro e w1 ⟨rfl, b1⟩
    go_wp2_with fail
    refine (refsEscape B v w1 (by omega)).mono ?_
    rintro e w2 ⟨rfl, b2⟩
    have hmk : (⟨(M2.escape v A.data.toList).toArray⟩ : ByteArray) ++ ⟨(M2.escape v B.data.toList).toArray⟩ = ⟨(M2.escape v A.data.toList ++ M2.escape v B.data.toList).toArray⟩ := cat_mk _ _
    have zA : (ByteArray.mk (M2.escape v A.data.toList).toArray).size ≤ 600 := (show (M2.escape v A.data.toList).length ≤ _ by have := own_list A; omega)
    have zB : (ByteArray.mk (M2.escape v B.data.toList).toArray).size ≤ 600 := (show (M2.escape v B.data.toList).length ≤ _ by have := own_list B; omega)
    generalize M2.escape v A.data.toList = X at *
    generalize M2.escape v B.data.toList = Y at *
    go_wp2_with fail
    refine (hE.out _).mono ?_
    rintro e w3 ⟨rfl, b3⟩
    go_wp2_with fail
    refine (hD.out _).mono ?_
    rintro e w4 ⟨rfl, b4⟩
    go_wp2_with fail
    refine (law02Lives w4).mono ?_
    rintro e w5 ⟨rfl, b5⟩
    go_wp2
    go_ret
    exact ⟨rfl, bt (bt (bt (bt b1 b2) b3) b4) b5⟩
  · have hA : (a.extract 0 100).size ≤ 100 := (by rw [ByteArray.size_extract]; omega)
    have hB : (b).size ≤ 100 := (by omega)
    generalize a.extract 0 100 = A at *
    generalize b = B at *
    have lA := own_list A
    have lB := own_list B
    have eA := M2.escape_len v A.data.toList
    have eB := M2.escape_len v B.data.toList
    have hcat : (A ++ B).data.toList = A.data.toList ++ B.data.toList := by simp
    have hcz : (A ++ B).size ≤ 200 := by rw [ByteArray.size_append]; omega
    have hE := fun w => refsEscape (A ++ B) v w (by omega)
    have hD : ∀ w, Calls Try.prog 16 #[.string ⟨(M2.escape v A.data.toList ++ M2.escape v B.data.toList).toArray⟩] w fun e w' => e = .returned (.string (A ++ B)) ∧ Below w.heap.size w w' := fun w => by
      have h := refsDecode ⟨(M2.escape v A.data.toList ++ M2.escape v B.data.toList).toArray⟩ w (show (M2.escape v A.data.toList ++ M2.escape v B.data.toList).length ≤ _ by rw [List.length_append]; omega)
      rw [show (ByteArray.mk (M2.escape v A.data.toList ++ M2.escape v B.data.toList).toArray).data.toList = M2.escape v A.data.toList ++ M2.escape v B.data.toList from rfl, M2.decode_escape_past, show M2.decode (M2.escape v B.data.toList) = B.data.toList from M2.decode_escape v _, ← hcat, str_back] at h
      exact h
    rw [hcat, M2.escape_append] at hE
    replace hE := Lib.hid hE
    replace hD := Lib.hid hD
    clear hcat lA lB
    refine (refsEscape A v w (by omega)).mono ?_
    rintro e w1 ⟨rfl, b1⟩
    go_wp2_with fail
    refine (refsEscape B v w1 (by omega)).mono ?_
    rintro e w2 ⟨rfl, b2⟩
    have hmk : (⟨(M2.escape v A.data.toList).toArray⟩ : ByteArray) ++ ⟨(M2.escape v B.data.toList).toArray⟩ = ⟨(M2.escape v A.data.toList ++ M2.escape v B.data.toList).toArray⟩ := cat_mk _ _
    have zA : (ByteArray.mk (M2.escape v A.data.toList).toArray).size ≤ 600 := (show (M2.escape v A.data.toList).length ≤ _ by have := own_list A; omega)
    have zB : (ByteArray.mk (M2.escape v B.data.toList).toArray).size ≤ 600 := (show (M2.escape v B.data.toList).length ≤ _ by have := own_list B; omega)
    generalize M2.escape v A.data.toList = X at *
    generalize M2.escape v B.data.toList = Y at *
    go_wp2_with fail
    refine (hE.out _).mono ?_
    rintro e w3 ⟨rfl, b3⟩
    go_wp2_with fail
    refine (hD.out _).mono ?_
    rintro e w4 ⟨rfl, b4⟩
    go_wp2_with fail
    refine (law02Lives w4).mono ?_
    rintro e w5 ⟨rfl, b5⟩
    go_wp2
    go_ret
    exact ⟨rfl, bt (bt (bt (bt b1 b2) b3) b4) b5⟩
  · have hA : (a).size ≤ 100 := (by omega)
    have hB : (b.extract 0 100).size ≤ 100 := (by rw [ByteArray.size_extract]; omega)
    generalize a = A at *
    generalize b.extract 0 100 = B at *
    have lA := own_list A
    have lB := own_list B
    have eA := M2.escape_len v A.data.toList
    have eB := M2.escape_len v B.data.toList
    have hcat : (A ++ B).data.toList = A.data.toList ++ B.data.toList := by simp
    have hcz : (A ++ B).size ≤ 200 := by rw [ByteArray.size_append]; omega
    have hE := fun w => refsEscape (A ++ B) v w (by omega)
    have hD : ∀ w, Calls Try.prog 16 #[.string ⟨(M2.escape v A.data.toList ++ M2.escape v B.data.toList).toArray⟩] w fun e w' => e = .returned (.string (A ++ B)) ∧ Below w.heap.size w w' := fun w => by
      have h := refsDecode ⟨(M2.escape v A.data.toList ++ M2.escape v B.data.toList).toArray⟩ w (show (M2.escape v A.data.toList ++ M2.escape v B.data.toList).length ≤ _ by rw [List.length_append]; omega)
      rw [show (ByteArray.mk (M2.escape v A.data.toList ++ M2.escape v B.data.toList).toArray).data.toList = M2.escape v A.data.toList ++ M2.escape v B.data.toList from rfl, M2.decode_escape_past, show M2.decode (M2.escape v B.data.toList) = B.data.toList from M2.decode_escape v _, ← hcat, str_back] at h
      exact h
    rw [hcat, M2.escape_append] at hE
    replace hE := Lib.hid hE
    replace hD := Lib.hid hD
    clear hcat lA lB
    refine (refsEscape A v w (by omega)).mono ?_
    rintro e w1 ⟨rfl, b1⟩
    go_wp2_with fail
    refine (refsEscape B v w1 (by omega)).mono ?_
    rintro e w2 ⟨rfl, b2⟩
    have hmk : (⟨(M2.escape v A.data.toList).toArray⟩ : ByteArray) ++ ⟨(M2.escape v B.data.toList).toArray⟩ = ⟨(M2.escape v A.data.toList ++ M2.escape v B.data.toList).toArray⟩ := cat_mk _ _
    have zA : (ByteArray.mk (M2.escape v A.data.toList).toArray).size ≤ 600 := (show (M2.escape v A.data.toList).length ≤ _ by have := own_list A; omega)
    have zB : (ByteArray.mk (M2.escape v B.data.toList).toArray).size ≤ 600 := (show (M2.escape v B.data.toList).length ≤ _ by have := own_list B; omega)
    generalize M2.escape v A.data.toList = X at *
    generalize M2.escape v B.data.toList = Y at *
    go_wp2_with fail
    refine (hE.out _).mono ?_
    rintro e w3 ⟨rfl, b3⟩
    go_wp2_with fail
    refine (hD.out _).mono ?_
    rintro e w4 ⟨rfl, b4⟩
    go_wp2_with fail
    refine (law02Lives w4).mono ?_
    rintro e w5 ⟨rfl, b5⟩
    go_wp2
    go_ret
    exact ⟨rfl, bt (bt (bt (bt b1 b2) b3) b4) b5⟩
  · have hA : (a).size ≤ 100 := (by omega)
    have hB : (b).size ≤ 100 := (by omega)
    generalize a = A at *
    generalize b = B at *
    have lA := own_list A
    have lB := own_list B
    have eA := M2.escape_len v A.data.toList
    have eB := M2.escape_len v B.data.toList
    have hcat : (A ++ B).data.toList = A.data.toList ++ B.data.toList := by simp
    have hcz : (A ++ B).size ≤ 200 := by rw [ByteArray.size_append]; omega
    have hE := fun w => refsEscape (A ++ B) v w (by omega)
    have hD : ∀ w, Calls Try.prog 16 #[.string ⟨(M2.escape v A.data.toList ++ M2.escape v B.data.toList).toArray⟩] w fun e w' => e = .returned (.string (A ++ B)) ∧ Below w.heap.size w w' := fun w => by
      have h := refsDecode ⟨(M2.escape v A.data.toList ++ M2.escape v B.data.toList).toArray⟩ w (show (M2.escape v A.data.toList ++ M2.escape v B.data.toList).length ≤ _ by rw [List.length_append]; omega)
      rw [show (ByteArray.mk (M2.escape v A.data.toList ++ M2.escape v B.data.toList).toArray).data.toList = M2.escape v A.data.toList ++ M2.escape v B.data.toList from rfl, M2.decode_escape_past, show M2.decode (M2.escape v B.data.toList) = B.data.toList from M2.decode_escape v _, ← hcat, str_back] at h
      exact h
    rw [hcat, M2.escape_append] at hE
    replace hE := Lib.hid hE
    replace hD := Lib.hid hD
    clear hcat lA lB
    refine (refsEscape A v w (by omega)).mono ?_
    rintro e w1 ⟨rfl, b1⟩
    go_wp2_with fail
    refine (refsEscape B v w1 (by omega)).mono ?_
    rintro e w2 ⟨rfl, b2⟩
    have hmk : (⟨(M2.escape v A.data.toList).toArray⟩ : ByteArray) ++ ⟨(M2.escape v B.data.toList).toArray⟩ = ⟨(M2.escape v A.data.toList ++ M2.escape v B.data.toList).toArray⟩ := cat_mk _ _
    have zA : (ByteArray.mk (M2.escape v A.data.toList).toArray).size ≤ 600 := (show (M2.escape v A.data.toList).length ≤ _ by have := own_list A; omega)
    have zB : (ByteArray.mk (M2.escape v B.data.toList).toArray).size ≤ 600 := (show (M2.escape v B.data.toList).length ≤ _ by have := own_list B; omega)
    generalize M2.escape v A.data.toList = X at *
    generalize M2.escape v B.data.toList = Y at *
    go_wp2_with fail
    refine (hE.out _).mono ?_
    rintro e w3 ⟨rfl, b3⟩
    go_wp2_with fail
    refine (hD.out _).mono ?_
    rintro e w4 ⟨rfl, b4⟩
    go_wp2_with fail
    refine (law02Lives w4).mono ?_
    rintro e w5 ⟨rfl, b5⟩
    go_wp2
    go_ret
    exact ⟨rfl, bt (bt (bt (bt b1 b2) b3) b4) b5⟩
end Go.Proofs.Ytafeideihaojfaa
