/- The statement UtfFolds: its walk. -/
import Derived.Test.YtmnbmdkoljekpaaLaw01
namespace Go.Proofs.Ytmnbmdkoljekpaa
open Go.RowKit

theorem folds_tail (L F : ByteArray) (K : Nat) (hfd : F.data.toList = M1.fold L.data.toList) (hK : K ≤ L.size) : M1.prefixB L.data.toList (F.extract 0 K).data.toList = true := by
  rw [Lib.extract_data, List.drop_zero, Nat.sub_zero]
  have hl : F.data.toList.length = L.data.toList.length := by rw [hfd]; simp [M1.fold]
  have hL : L.data.toList.length = L.size := rfl
  refine M1.prefixB_yes _ _ (by rw [List.length_take]; omega) ?_
  rw [List.length_take, Nat.min_eq_left (by omega), hfd, M1.fold, M1.fold, List.map_take]

set_option maxHeartbeats 1000000 in
set_option maxRecDepth 100000 in
theorem law01UtfFolds (s : ByteArray) (n : Int) (w : World) (hs : s.size ≤ 9223372036854775807) (hn0 : -9223372036854775808 ≤ n) (hn1 : n ≤ 9223372036854775807) :
    Calls Try.prog 9 #[.string s, .int .i64 n] w fun e w' => e = .returned (.bool true) ∧ Below w.heap.size w w' := by
  obtain ⟨x1, w1, hc1, s1, b1⟩ := conv_bytes w s hs
  go_enter Try.func9, Try.ntmps9
  go_wp2_with fail
  refine (law01Few x1 _ w1 s1).mono ?_
  rintro e w0 ⟨x2, rfl, h1, rfl⟩
  have hl : (s.data.toList.take 200).length ≤ 200 := List.length_take_le _ _
  generalize s.data.toList.take 200 = l at *
  have hc2 := conv_back h1
  obtain ⟨L, hL⟩ : ∃ L : ByteArray, (⟨l.toArray⟩ : ByteArray) = L := ⟨_, rfl⟩
  have hLl : L.size ≤ 200 := by rw [← hL]; exact hl
  rw [hL] at hc2
  clear hL
  go_wp2_with fail
  refine (utfFold L w0 (by omega)).mono ?_
  rintro e w2 ⟨rfl, b2⟩
  obtain ⟨F, hF⟩ : ∃ F : ByteArray, (⟨(M1.fold L.data.toList).toArray⟩ : ByteArray) = F := ⟨_, rfl⟩
  have hfd0 : F.data.toList = M1.fold L.data.toList := by rw [← hF]
  rw [hF]
  clear hF hc1 hc2
  have hff := Lib.hid (show (⟨(M1.fold F.data.toList).toArray⟩ : ByteArray) = F by rw [hfd0, M1.fold_fold, ← hfd0])
  have hfl : F.size = L.size := by
    have : F.data.toList.length = L.data.toList.length := by rw [hfd0]; simp [M1.fold]
    exact this
  have hnot : ∀ j (h : j < F.size), ¬ (65 ≤ F[j].toNat ∧ F[j].toNat ≤ 90) := by
    intro j h
    have h' : j < F.data.toList.length := h
    have hm : F.data.toList[j] ∈ M1.fold L.data.toList := by rw [← hfd0]; exact List.getElem_mem h'
    simp only [M1.fold, List.mem_map] at hm
    obtain ⟨d, _, hd⟩ := hm
    have := M1.small_not d
    rw [hd] at this
    exact this
  have hfd := Lib.hid hfd0
  have hnot0 := Lib.hid hnot
  have hle : F.size ≤ L.size ∧ L.size ≤ F.size := by omega
  have hfb0 := Lib.hid (show ((F.size : Int) == (L.size : Int)) = true by simp [hfl])
  clear hfl hnot hfd0
  have tail : ∀ (n : Int), 0 ≤ n → ∃ K : Nat, n % ((L.size : Int) + 1) = K ∧ K ≤ L.size ∧ Hid (M1.prefixB L.data.toList (F.extract 0 K).data.toList = true) := by
    intro n hn
    have h1 := Int.emod_nonneg n (show (L.size : Int) + 1 ≠ 0 by omega)
    have h2 := Int.emod_lt_of_pos n (show 0 < (L.size : Int) + 1 by omega)
    exact ⟨(n % ((L.size : Int) + 1)).toNat, by omega, by omega, folds_tail L F _ hfd.out (by omega)⟩
  have tail := Lib.hid tail
  by_cases hneg : n < 0
  · obtain ⟨K, hK0, hKl, hpre⟩ := tail.out (-(n + 1)) (by omega)
    have hK : (-(n + 1)).tmod ((L.size : Int) + 1) = K := by rw [Int.tmod_eq_emod_of_nonneg (by omega), hK0]
    clear hK0
    go_wp2
    go_loopw [7] (fun i wr => ∃ j : Nat, i = .int .i64 j ∧ j ≤ F.size ∧ Below w.heap.size w wr) (fun i _ => F.size - (intOf i).toNat)
    case atStart => exact ⟨0, rfl, by omega, bt b1 b2⟩
    case round =>
      obtain ⟨j, rfl, hj, hbw⟩ := hrel
      by_cases hlt : j < F.size
      · have hn := hnot0.out j hlt
        by_cases hu : F[j].toNat < 65
        · have hb : decide (65 ≤ F[j].toNat) = false := decide_eq_false (by omega)
          clear hn
          go_wp2
          go_roundw
          case rel => exact ⟨j + 1, by go_num, by omega, hbw⟩
          case measure => simp [intOf]; omega
        · have hu2 : 90 < F[j].toNat := by omega
          have hu3 : 65 ≤ F[j].toNat := by omega
          have hb : decide (F[j].toNat ≤ 90) = false := decide_eq_false (by omega)
          clear hn hu
          go_wp2
          go_roundw
          case rel => exact ⟨j + 1, by go_num, by omega, hbw⟩
          case measure => simp [intOf]; omega
      · have hfb := hfb0.out
        go_wp2_with fail
        refine (utfFold F wr (by omega)).mono ?_
        rintro e w3 ⟨rfl, b3⟩
        rw [hff.out]
        go_wp2_with fail
        refine (utfPrefix L (F.extract 0 K) w3 (by omega) ?_).mono ?_
        · rw [ByteArray.size_extract]; omega
        rintro e w4 ⟨rfl, b4⟩
        rw [hpre.out]
        go_wp2_with fail
        refine (law01Lives w4).mono ?_
        rintro e w5 ⟨rfl, b5⟩
        go_wp2
        go_ret
        exact ⟨rfl, hbw.trans ((bt (bt b3 b4) b5).mono hbw.size)⟩
  · have hpos : 0 ≤ n := by omega
    clear hneg
    obtain ⟨K, hK, hKl, hpre⟩ := tail.out n hpos
    have hK := Lib.hid hK
    go_wp2
    rw [hK.out]
    clear hK
    go_loopw [7] (fun i wr => ∃ j : Nat, i = .int .i64 j ∧ j ≤ F.size ∧ Below w.heap.size w wr) (fun i _ => F.size - (intOf i).toNat)
    case atStart => exact ⟨0, rfl, by omega, bt b1 b2⟩
    case round =>
      obtain ⟨j, rfl, hj, hbw⟩ := hrel
      by_cases hlt : j < F.size
      · have hn := hnot0.out j hlt
        by_cases hu : F[j].toNat < 65
        · have hb : decide (65 ≤ F[j].toNat) = false := decide_eq_false (by omega)
          clear hn
          go_wp2
          go_roundw
          case rel => exact ⟨j + 1, by go_num, by omega, hbw⟩
          case measure => simp [intOf]; omega
        · have hu2 : 90 < F[j].toNat := by omega
          have hu3 : 65 ≤ F[j].toNat := by omega
          have hb : decide (F[j].toNat ≤ 90) = false := decide_eq_false (by omega)
          clear hn hu
          go_wp2
          go_roundw
          case rel => exact ⟨j + 1, by go_num, by omega, hbw⟩
          case measure => simp [intOf]; omega
      · have hfb := hfb0.out
        go_wp2_with fail
        refine (utfFold F wr (by omega)).mono ?_
        rintro e w3 ⟨rfl, b3⟩
        rw [hff.out]
        go_wp2_with fail
        refine (utfPrefix L (F.extract 0 K) w3 (by omega) ?_).mono ?_
        · rw [ByteArray.size_extract]; omega
        rintro e w4 ⟨rfl, b4⟩
        rw [hpre.out]
        go_wp2_with fail
        refine (law01Lives w4).mono ?_
        rintro e w5 ⟨rfl, b5⟩
        go_wp2
        go_ret
        exact ⟨rfl, hbw.trans ((bt (bt b3 b4) b5).mono hbw.size)⟩
end Go.Proofs.Ytmnbmdkoljekpaa
