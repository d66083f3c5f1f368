/- A text over joined ones: Law05b. -/
import Derived.Test.YtlknmnldblodbaaH1
import Derived.Test.YtlknmnldblodbaaH2
import Derived.Test.YtlknmnldblodbaaH3
import Derived.Test.YtlknmnldblodbaaH4
import Derived.Test.YtlknmnldblodbaaH5
import Derived.Test.YtlknmnldblodbaaH6
import Derived.Test.YtlknmnldblodbaaHMath5g
import Derived.Test.YtlknmnldblodbaaHWr2
import Derived.Test.YtlknmnldblodbaaHRef04
import Derived.Test.YtlknmnldblodbaaHLaw05c
import Derived.Test.YtlknmnldblodbaaHMath5h
/- Statement TokenBlanks. -/
namespace Go.Proofs.Ytlknmnldblodbaa
open Go.RowKit

def notQ (c : UInt8) : Bool := c != 34 && c != 39
set_option maxHeartbeats 4000000 in
set_option maxRecDepth 100000 in
set_option maxHeartbeats 4000000 in
set_option maxRecDepth 100000 in
theorem law05TokenBlanks (v : Value) (l : List UInt8) (w : World) (hg : Glo w) (hs : Sl w v (u8s l)) : Calls Try.prog 9 #[v] w fun e w' => e = .returned (.bool true) ∧ Below w.heap.size w w' := by
  obtain ⟨wo, rfl⟩ : ∃ wo : World, wo = w := ⟨_, rfl⟩
  obtain ⟨a, cap, rfl, hlc, hcm⟩ := hs.len8
  obtain ⟨n, hn⟩ : ∃ n, n = min l.length 30 := ⟨_, rfl⟩
  have hn30 : n ≤ 30 := by omega
  have hR := Lib.hid (ref01Right (.slice a n cap) (l.take n) wo (hs.take8 n (by omega)) (by rw [List.length_take]; omega))
  have hrl := M1.right_len (l.take n)
  rw [List.length_take] at hrl
  obtain ⟨s, hse⟩ : ∃ s : ByteArray, Hid (s = ⟨(M1.right (l.take n)).toArray⟩) := ⟨_, rfl⟩
  have hsz : s.size ≤ 120 := by
    rw [hse.out]
    show (M1.right (l.take n)).toArray.size ≤ 120
    rw [List.size_toArray]
    omega
  rw [← hse.out] at hR
  clear hs hrl
  have hnl : n ≤ l.length := by omega
  replace hn := Lib.hid hn
  go_enter Try.func9, Try.ntmps9
  go_upto_if 11 with fail
  go_cut [0] from 9 to 66 (fun s0 wx => s0 = .slice a n cap ∧ wo = wx)
  case first =>
    by_cases hgt : 30 < l.length
    · have hgti : decide ((30 : Int) < (l.length : Int)) = true := decide_eq_true (by omega)
      have hne : n = 30 := by have := hn.out; omega
      replace hne := Lib.hid hne
      go_wp2_with fail
      go_meet
      case rel => exact ⟨by rw [hne.out], rfl⟩
    · have hgti : decide ((30 : Int) < (l.length : Int)) = false := decide_eq_false (by omega)
      have hne : n = l.length := by have := hn.out; omega
      replace hne := Lib.hid hne
      go_wp2_with fail
      go_meet
      case rel => exact ⟨by rw [hne.out], rfl⟩
  case rest =>
    obtain ⟨rfl, rfl⟩ := hcut
    go_wp2_with fail
    refine hR.out.mono ?_
    rintro e1 w1 ⟨rfl, hb1⟩
    have hws1 := hb1.size
    go_wp2_with fail
    go_loopw [4, 5] (fun u4 u5 wr => ∃ (i : Nat) (acc : List UInt8), u5 = .int .i64 (i : Int) ∧ i ≤ s.size ∧ acc.length ≤ i ∧ wr.ownsRow w1.heap.size 5 1 u4 acc.length (u8s acc) ∧ Below wo.heap.size wo wr ∧ w1.heap.size ≤ wr.heap.size ∧ Hid (acc = (s.data.toList.take i).filter notQ)) (fun _ u5 _ => s.size - (intOf u5).toNat)
    case atStart => exact ⟨0, [], rfl, by omega, by simp, World.ownsRow_nil _ _ _ _, hb1, by omega, Lib.hid rfl⟩
    case round =>
      obtain ⟨i, acc, rfl, hi, hal, hown, hbw, hwr, hacc⟩ := hrel
      by_cases hlt : i < s.size
      · have htk := List.take_succ_eq_append_getElem (l := s.data.toList) hlt
        have e34 : ((s[i].toNat : Int) == 34) = (s[i] == 34) := (eqI _ 34).symm
        have e39 : ((s[i].toNat : Int) == 39) = (s[i] == 39) := (eqI _ 39).symm
        have hstep : (s.data.toList.take (i + 1)).filter notQ = acc ++ (if notQ s[i] then [s[i]] else []) := by
          rw [htk, List.filter_append, ← hacc.out]
          congr 1
          show [s[i]].filter notQ = _
          cases hq : notQ s[i] <;> simp [hq]
        replace htk := Lib.hid htk
        have hti : decide ((i : Int) < (s.size : Int)) = true := decide_eq_true (by omega)
        cases h34 : (s[i] == 34)
        · cases h39 : (s[i] == 39)
          · have hq : notQ s[i] = true := by unfold notQ; rw [bne, bne, h34, h39]; rfl
            rw [hq, if_pos rfl] at hstep
            have n34 : ((s[i].toNat : Int) != 34) = true := by rw [bne, e34, h34]; rfl
            have n39 : ((s[i].toNat : Int) != 39) = true := by rw [bne, e39, h39]; rfl
            replace hstep := Lib.hid hstep
            replace hq := Lib.hid hq
            replace h34 := Lib.hid h34
            replace h39 := Lib.hid h39
            clear e34 e39
            go_wp2_with (at_builtin; refine wpList_app1 wr _ rfl _ _ 22 5 rfl w1.heap.size Try.underlying22 infoU8 rfl _ _ _ rfl hown rfl rfl (by omega) (by omega) (by omega) ?_; intro v' w2 hown2 hgrow)
            go_roundw
            case rel =>
              refine ⟨i + 1, acc ++ [s[i]], by go_num, by omega, by simp; omega, ?_, below_row hbw hown hgrow (by omega) (by omega), Nat.le_trans hwr hgrow.size, by show _ = _; rw [hstep.out]⟩
              rw [u8s_append, List.length_append]
              exact hown2
            case measure => simp [intOf]; omega
          · have hq : notQ s[i] = false := by unfold notQ; rw [bne, bne, h34, h39]; rfl
            rw [hq, if_neg Bool.false_ne_true, List.append_nil] at hstep
            have n34 : ((s[i].toNat : Int) != 34) = true := by rw [bne, e34, h34]; rfl
            have n39 : ((s[i].toNat : Int) != 39) = false := by rw [bne, e39, h39]; rfl
            replace hstep := Lib.hid hstep
            replace hq := Lib.hid hq
            replace h34 := Lib.hid h34
            replace h39 := Lib.hid h39
            clear e34 e39
            go_wp2_with fail
            go_roundw
            case rel => exact ⟨i + 1, acc, by go_num, by omega, by omega, hown, hbw, hwr, by show _ = _; rw [hstep.out]⟩
            case measure => simp [intOf]; omega
        · have hq : notQ s[i] = false := by unfold notQ; rw [bne, h34]; rfl
          rw [hq, if_neg Bool.false_ne_true, List.append_nil] at hstep
          have n34 : ((s[i].toNat : Int) != 34) = false := by rw [bne, e34, h34]; rfl
          replace hstep := Lib.hid hstep
          replace hq := Lib.hid hq
          replace h34 := Lib.hid h34
          clear e34 e39
          go_wp2_with fail
          go_roundw
          case rel => exact ⟨i + 1, acc, by go_num, by omega, by omega, hown, hbw, hwr, by show _ = _; rw [hstep.out]⟩
          case measure => simp [intOf]; omega
      · obtain rfl : i = s.size := by omega
        have hti : decide ((s.size : Int) < (s.size : Int)) = false := decide_eq_false (by omega)
        have hcv := (Sl.own hown).toString 22 9 5 Try.underlying22 Try.underlying5 Try.underlying9
        have hq : ∀ x ∈ acc, x ≠ 34 ∧ x ≠ 39 := fun x hx => by
          rw [hacc.out] at hx
          have := (List.mem_filter.1 hx).2
          unfold notQ at this
          rw [Bool.and_eq_true, bne_iff_ne, bne_iff_ne] at this
          exact this
        have h1 := M5.blanks_one acc (fun x hx => (hq x hx).1)
        have h2 := M5.blanks_two acc (fun x hx => (hq x hx).2)
        obtain ⟨vs, hvs⟩ : ∃ x : ByteArray, x = ⟨acc.toArray⟩ := ⟨_, rfl⟩
        have hvz : vs.size ≤ 120 := by rw [hvs]; show acc.toArray.size ≤ 120; rw [List.size_toArray]; omega
        have hvd : vs.data.toList = acc := by rw [hvs]
        rw [← hvs] at hcv
        have hk1 : ((⟨#[60, 97, 32, 120, 61, 34]⟩ : ByteArray) ++ vs ++ ⟨#[34, 62]⟩).data.toList = [60, 97, 32, 120, 61, 34] ++ acc ++ [34, 62] := by
          rw [ByteArray.data_append, ByteArray.data_append, Array.toList_append, Array.toList_append, hvd]
        have hk2 : ((⟨#[60, 65, 32, 10, 47, 32, 61, 32, 88, 9, 61, 32, 39]⟩ : ByteArray) ++ vs ++ ⟨#[39, 32, 47, 32, 62]⟩).data.toList = [60, 65, 32, 10, 47, 32, 61, 32, 88, 9, 61, 32, 39] ++ acc ++ [39, 32, 47, 32, 62] := by
          rw [ByteArray.data_append, ByteArray.data_append, Array.toList_append, Array.toList_append, hvd]
        have hT1 := fun (w : World) (hg : Glo w) => tokTokens ((⟨#[60, 97, 32, 120, 61, 34]⟩ : ByteArray) ++ vs ++ ⟨#[34, 62]⟩) w hg (by rw [ByteArray.size_append, ByteArray.size_append]; show 6 + vs.size + 2 ≤ _; omega)
        have hT2 := fun (w : World) (hg : Glo w) => tokTokens ((⟨#[60, 65, 32, 10, 47, 32, 61, 32, 88, 9, 61, 32, 39]⟩ : ByteArray) ++ vs ++ ⟨#[39, 32, 47, 32, 62]⟩) w hg (by rw [ByteArray.size_append, ByteArray.size_append]; show 13 + vs.size + 5 ≤ _; omega)
        rw [hk1, h1] at hT1
        rw [hk2, h2] at hT2
        have hs1 : ¬ 9223372036854775807 < 6 + vs.size := by omega
        have hs2 : ¬ 9223372036854775807 < 13 + vs.size := by omega
        replace hT1 := Lib.hid hT1
        replace hT2 := Lib.hid hT2
        clear h1 h2 hk1 hk2 hq hvs hvd
        go_wp2_with fail
        refine (hT1.out _ (hg.below hbw (Nat.le_refl _))).mono ?_
        rintro e1 w2 ⟨v2, rfl, hl2, hb2⟩
        have hb12 := bt hbw hb2
        obtain ⟨a2, c2, rfl⟩ := hl2.slice
        go_wp2_with fail
        refine (hT2.out _ (hg.below hb12 (Nat.le_refl _))).mono ?_
        rintro e1 w3 ⟨v3, rfl, hl3, hb3⟩
        have hb13 := bt hb12 hb3
        have hl23 := hl2.below hb3
        obtain ⟨a3, c3, rfl⟩ := hl3.slice
        obtain ⟨xs2, hr2, hp2⟩ := hl23.rows
        obtain ⟨xs3, hr3, hp3⟩ := hl3.rows
        have hSm := Lib.hid (ref05Same [M5.blanksT acc] _ _ _ _ xs2 xs3 w3 (fun b hb => hb.2) (fun b hb => hb.2) hr2 hp2 hr3 hp3)
        go_wp2_with fail
        refine hSm.out.mono ?_
        rintro e1 w4 ⟨rfl, hb4⟩
        have hb14 := bt hb13 hb4
        obtain ⟨xs2, hr2, hp2⟩ := (hl23.below hb4).rows
        obtain ⟨b, off, va, rfl, _, q0, p0, p1, p2, p3⟩ := hr2.atT hp2 0 (by show 0 < 1; omega)
        obtain ⟨a5, c5, rfl⟩ := q0.slice
        simp only [List.getElem_cons_zero, Nat.zero_mul, Nat.add_zero] at p0 p1 p2 p3
        clear hr2 hp2 hr3 hp3 q0
        have hlen : ((M5.blanksT acc).attrs.length : Int) = 1 := rfl
        have hg4 := hg.below hb14 (Nat.le_refl _)
        go_wp2_with fail
        refine (lives05 _ hg4).mono ?_
        rintro e1 w5 ⟨rfl, hb5⟩
        go_wp2_with fail
        go_ret
        exact ⟨rfl, bt hb14 hb5⟩
end Go.Proofs.Ytlknmnldblodbaa

