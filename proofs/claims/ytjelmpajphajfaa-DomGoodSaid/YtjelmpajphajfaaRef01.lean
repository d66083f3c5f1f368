/- The document's answers of layer 1 (package strainerref01): what each call gives. -/
import Derived.Test.YtjelmpajphajfaaBuilder
import Derived.Test.YtjelmpajphajfaaKit
import Derived.Test.YtjelmpajphajfaaMath1b
import Derived.BigCall
import Derived.Deep.QuietTactic
import Derived.BigQuiet
import Derived.Deep.DeepCutAuto
namespace Go.Proofs.Ytjelmpajphajfaa
open Go.RowKit

set_option maxHeartbeats 1000000 in
theorem ref01Follows (c : Int) (w : World) (h0 : 0 ≤ c) (h1 : c ≤ 255) :
    Calls Try.prog 93 #[.int .u8 c] w fun e w' => e = .returned (.bool (decide (128 ≤ c ∧ c < 192))) ∧ w' = w := by
  by_cases h : 128 ≤ c ∧ c < 192
  · rw [decide_eq_true h]
    obtain ⟨h2, h3⟩ := h
    go_enter Try.func93, Try.ntmps93
    go_wp2
    go_ret
    exact ⟨rfl, rfl⟩
  · rw [decide_eq_false h]
    have h2 : c < 128 ∨ 192 ≤ c := by omega
    rcases h2 with h2 | h2
    · have hb : decide (128 ≤ c) = false := decide_eq_false (by omega)
      go_enter Try.func93, Try.ntmps93
      go_wp2
      go_ret
      exact ⟨rfl, rfl⟩
    · have hb : decide (c < 192) = false := decide_eq_false (by omega)
      go_enter Try.func93, Try.ntmps93
      go_wp2
      go_ret
      exact ⟨rfl, rfl⟩

set_option maxHeartbeats 2000000 in
set_option maxRecDepth 100000 in
theorem ref01One (v : Value) (l : List UInt8) (w : World) (hs : Sl w v (u8s l)) (hne : l ≠ []) :
    Calls Try.prog 81 #[v] w fun e w' => e = .returned (.tuple #[.int .i32 (M1.dec l).1, .int .i64 (M1.dec l).2]) ∧ w' = w := by
  obtain ⟨a, cap, rfl, h2, h3, h4, h5⟩ := hs
  have hpos := List.length_pos_iff.2 hne
  obtain ⟨b, off, rfl, h7⟩ := h5 (ne_of_lt (k := 0) (by simpa using hpos))
  rw [u8s_length] at *
  have hc : ∀ j, j < l.length → w.cell? ⟨b, off + j, none⟩ = some (.int .u8 (M1.at_ l j : Int)) := by
    intro j hj
    rw [h7 j (by simpa using hj)]
    simp [u8s, Lib.byteCells, M1.at_, List.getD_eq_getElem?_getD, List.getElem?_eq_getElem hj]
  have hc0 := hc 0 hpos
  rw [Nat.add_zero] at hc0
  have hb0 := M1.at_lt l 0
  clear h5 h7 h4
  by_cases hlow : M1.at_ l 0 < 128
  · rw [M1.dec_low l hlow]
    clear hc
    generalize M1.at_ l 0 = c at *
    go_enter Try.func81, Try.ntmps81
    go_wp2
    go_ret2
    exact ⟨rfl, rfl⟩
  by_cases hnone : M1.at_ l 0 < 192 ∨ 248 ≤ M1.at_ l 0
  · rw [M1.dec_none l (by omega) hnone]
    clear hc
    generalize M1.at_ l 0 = c at *
    rcases hnone with hnone | hnone
    all_goals
      go_enter Try.func81, Try.ntmps81
      go_wp2
      go_ret2
      exact ⟨rfl, rfl⟩
  have hcls : (192 ≤ M1.at_ l 0 ∧ M1.at_ l 0 < 224) ∨ (224 ≤ M1.at_ l 0 ∧ M1.at_ l 0 < 240) ∨ (240 ≤ M1.at_ l 0 ∧ M1.at_ l 0 < 248) := by omega
  go_enter Try.func81, Try.ntmps81
  go_upto_if 23 with fail
  go_cut [4, 5, 6, 7] (fun _ s5 s6 s7 wx => wx = w ∧ ∃ n v least : Nat, s5 = .int .i64 n ∧ s6 = .int .i64 v ∧ s7 = .int .i64 least ∧ M1.Cls (M1.at_ l 0) n v least)
  case first =>
    clear hc
    rcases hcls with ⟨k1, k2⟩ | ⟨k1, k2⟩ | ⟨k1, k2⟩
    · go_wp2
      go_meet
      exact ⟨rfl, 2, M1.at_ l 0 - 192, 128, rfl, by rw [Int.ofNat_sub k1]; rfl, rfl, by unfold M1.Cls; omega⟩
    · go_wp2
      go_meet
      exact ⟨rfl, 3, M1.at_ l 0 - 224, 2048, rfl, by rw [Int.ofNat_sub k1]; rfl, rfl, by unfold M1.Cls; omega⟩
    · go_wp2
      go_meet
      exact ⟨rfl, 4, M1.at_ l 0 - 240, 65536, rfl, by rw [Int.ofNat_sub k1]; rfl, rfl, by unfold M1.Cls; omega⟩
  case rest =>
    obtain ⟨rfl, n, v, least, rfl, rfl, rfl, hC⟩ := hcut
    have hn : 2 ≤ n ∧ n ≤ 4 ∧ v < 32 := by unfold M1.Cls at hC; omega
    clear hcls hnone hlow hc0
    by_cases hsh : l.length < n
    · have hd := Lib.hid (M1.dec_short l hC hsh)
      go_wp2
      go_ret2
      exact ⟨by rw [hd.out]; rfl, rfl⟩
    go_wp2
    go_loop [6, 8] (fun s6 i => ∃ k : Nat, 1 ≤ k ∧ k ≤ n ∧ i = .int .i64 k ∧ s6 = .int .i64 (M1.vv l v k) ∧ Hid (∀ j, 1 ≤ j → j < k → M1.foll (M1.at_ l j)) ∧ Hid ((k = 1 → M1.vv l v k < 32) ∧ (k = 2 → M1.vv l v k < 2048) ∧ (k = 3 → M1.vv l v k < 131072) ∧ (k = 4 → M1.vv l v k < 8388608))) (fun _ i => n - (intOf i).toNat)
    case atStart => exact ⟨1, by omega, by omega, rfl, rfl, fun j _ _ => by omega, ⟨fun _ => hn.2.2, by omega, by omega, by omega⟩⟩
    case round =>
      obtain ⟨k, hk1, hk2, rfl, rfl, hF, hV⟩ := hrel
      by_cases hlt : k < n
      · have hck := hc k (by omega)
        have hak := M1.at_lt l k
        have hvb : M1.vv l v k < 131072 := by have := hV.out; omega
        by_cases hfo : M1.foll (M1.at_ l k)
        · have hb : decide (128 ≤ (M1.at_ l k : Int) ∧ (M1.at_ l k : Int) < 192) = true := decide_eq_true (by unfold M1.foll at hfo; omega)
          have hF2 : Hid (∀ j, 1 ≤ j → j < k + 1 → M1.foll (M1.at_ l j)) := fun j h1 h2 => by
            by_cases e : j = k
            · rw [e]; exact hfo
            · exact hF.out j h1 (by omega)
          have hfo2 : 128 ≤ M1.at_ l k ∧ M1.at_ l k < 192 := hfo
          have hvs : Hid (M1.vv l v (k + 1) = 64 * M1.vv l v k + M1.at_ l k - 128) := by
            obtain ⟨k', rfl⟩ : ∃ k', k = k' + 1 := ⟨k - 1, by omega⟩
            exact rfl
          clear hc hfo
          go_wp2_with (go_at_call 93; refine (ref01Follows _ _ (by omega) (by omega)).mono ?_; rintro e w2 ⟨rfl, rfl⟩)
          go_round
          case rel =>
            refine ⟨k + 1, by omega, by omega, by go_num, ?_, hF2, ?_⟩
            · rw [hvs.out]; congr 1; omega
            · show _ ∧ _ ∧ _ ∧ _
              have := hV.out
              have := hvs.out
              refine ⟨?_, ?_, ?_, ?_⟩ <;> intro _ <;> omega
          case measure => simp [intOf]; omega
        · have hb : decide (128 ≤ (M1.at_ l k : Int) ∧ (M1.at_ l k : Int) < 192) = false := decide_eq_false (by unfold M1.foll at hfo; omega)
          have hd := Lib.hid (M1.dec_stop l hC k hk1 hlt hfo)
          clear hc hfo
          go_wp2_with (go_at_call 93; refine (ref01Follows _ _ (by omega) (by omega)).mono ?_; rintro e w2 ⟨rfl, rfl⟩)
          go_ret2
          exact ⟨by rw [hd.out]; rfl, rfl⟩
      · obtain rfl : k = n := by omega
        have hd := Lib.hid (M1.dec_full l hC (by omega) hF.out)
        have hvb : M1.vv l v k < 8388608 := by have := hV.out; omega
        clear hc hV hF
        by_cases hbad : M1.badv (M1.vv l v k) least
        · have hd2 := Lib.hid (hd.out.trans (if_pos hbad))
          clear hd
          unfold M1.badv at hbad
          generalize M1.vv l v k = x at *
          have hcase : x < least ∨ (least ≤ x ∧ 1114111 < x) ∨ (least ≤ x ∧ 55296 ≤ x ∧ x ≤ 57343) := by omega
          rcases hcase with c1 | ⟨c1, c2⟩ | ⟨c1, c2, c3⟩
          all_goals
            clear hbad
            go_wp2
            go_ret2
            exact ⟨by rw [hd2.out]; rfl, rfl⟩
        · have hd2 := Lib.hid (hd.out.trans (if_neg hbad))
          clear hd
          unfold M1.badv at hbad
          generalize M1.vv l v k = x at *
          have c1 : least ≤ x := by omega
          have c2 : x ≤ 1114111 := by omega
          have hcase : x < 55296 ∨ 57343 < x := by omega
          rcases hcase with c3 | c3
          · have hb : decide (55296 ≤ (x : Int)) = false := decide_eq_false (by omega)
            have hb2 : decide (55296 ≤ x) = false := decide_eq_false (by omega)
            clear hbad
            go_wp2
            go_ret2
            exact ⟨by rw [hd2.out]; rfl, rfl⟩
          · have hb : decide ((x : Int) ≤ 57343) = false := decide_eq_false (by omega)
            have hb2 : decide (x ≤ 57343) = false := decide_eq_false (by omega)
            clear hbad
            go_wp2
            go_ret2
            exact ⟨by rw [hd2.out]; rfl, rfl⟩
end Go.Proofs.Ytjelmpajphajfaa
