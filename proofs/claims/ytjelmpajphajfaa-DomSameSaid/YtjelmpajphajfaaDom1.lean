/- Package dom's small functions: names, kinds, attributes. -/
import Derived.Test.YtjelmpajphajfaaMem
import Derived.Test.YtjelmpajphajfaaStrs
import Derived.Test.YtjelmpajphajfaaUtf
import Derived.Test.YtjelmpajphajfaaShelf3
import Derived.Test.YtjelmpajphajfaaMath2
import Derived.BigCall
import Derived.Deep.QuietTactic
import Derived.BigQuiet
import Derived.IntWalk
import Derived.Outline
namespace Go.Proofs.Ytjelmpajphajfaa
open Go.RowKit

set_option maxHeartbeats 1000000 in
theorem domVoid (s : ByteArray) (w : World) : Calls Try.prog 47 #[.string s] w fun e w' => e = .returned (.bool (M3.voidB s.data.toList)) ∧ w' = w := by
  rw [← Lib.toList_data]
  go_enter Try.func47, Try.ntmps47
  go_wp2
  all_goals (go_ret; refine ⟨?_, rfl⟩; unfold M3.voidB; simp_all)

set_option maxHeartbeats 1000000 in
theorem ref03Void (s : ByteArray) (w : World) : Calls Try.prog 34 #[.string s] w fun e w' => e = .returned (.bool (M3.voidB s.data.toList)) ∧ w' = w := by
  rw [← Lib.toList_data]
  go_enter Try.func34, Try.ntmps34
  go_wp2
  all_goals (go_ret; refine ⟨?_, rfl⟩; unfold M3.voidB; simp_all)

set_option maxHeartbeats 1000000 in
theorem domRaw (s : ByteArray) (w : World) : Calls Try.prog 48 #[.string s] w fun e w' => e = .returned (.bool (M3.rawB s.data.toList)) ∧ w' = w := by
  rw [← Lib.toList_data]
  go_enter Try.func48, Try.ntmps48
  go_wp2
  all_goals (go_ret; refine ⟨?_, rfl⟩; unfold M3.rawB; simp_all)

set_option maxHeartbeats 1000000 in
theorem ref03Raw (s : ByteArray) (w : World) : Calls Try.prog 40 #[.string s] w fun e w' => e = .returned (.bool (M3.rawB s.data.toList)) ∧ w' = w := by
  rw [← Lib.toList_data]
  go_enter Try.func40, Try.ntmps40
  go_wp2
  all_goals (go_ret; refine ⟨?_, rfl⟩; unfold M3.rawB; simp_all)

set_option maxHeartbeats 1000000 in
theorem ref03Small (c : UInt8) (w : World) : Calls Try.prog 97 #[.int .u8 (c.toNat : Int)] w fun e w' => e = .returned (.bool (M3.smallB c)) ∧ w' = w := by
  by_cases h1 : 97 ≤ c.toNat
  · go_enter Try.func97, Try.ntmps97
    go_wp2
    go_ret
    exact ⟨by simp [M3.smallB, h1]; omega, rfl⟩
  · go_enter Try.func97, Try.ntmps97
    go_wp2
    all_goals (go_ret; exact ⟨by simp [M3.smallB, h1], rfl⟩)

set_option maxHeartbeats 4000000 in
set_option maxRecDepth 100000 in
theorem domNamed (s : ByteArray) (w : World) (hs : s.size ≤ 9223372036854775807) :
    Calls Try.prog 87 #[.string s] w fun e w' => e = .returned (.bool (M3.namedB s.data.toList)) ∧ Below w.heap.size w w' := by
  have hsz : s.size = s.data.toList.length := rfl
  have hemp : s.toList = s.data.toList := Lib.toList_data s
  generalize hl : s.data.toList = l at *
  go_enter Try.func87, Try.ntmps87
  go_wp2
  go_loopw [] (fun wr => ∃ p : Nat, p ≤ l.length ∧ wr.heap[w.heap.size]? = some (.stringIter s p) ∧ Below w.heap.size w wr ∧ Hid (M3.namedB l = M3.tailB l p)) (fun wr => l.length - wr.iterPos w.heap.size)
  case atStart => exact ⟨0, by omega, World.iter_heap w s 0, (Below.refl _ w).alloc (Nat.le_refl _) _, rfl⟩
  case round =>
    obtain ⟨p, hpl, hit, hbw, hB⟩ := hrel
    have hsz0 : w.heap.size < wr.heap.size := (Array.getElem?_eq_some_iff.1 hit).1
    by_cases hp : p < l.length
    · have hdr : l.drop p = l[p] :: l.drop (p + 1) := List.drop_eq_getElem_cons hp
      have hnx := next_dec (P := Try.prog) wr w.heap.size s p hit (by omega)
      rw [hl, hdr] at hnx
      have hlo := M2.dec_lo l[p] (l.drop (p + 1))
      have hhi := M2.dec_hi l[p] (l.drop (p + 1))
      have hlt := M1.dec_lt (l[p] :: l.drop (p + 1))
      have hno := Lib.hid (M3.tail_no hp)
      have hyes := Lib.hid (M3.tail_yes hp)
      generalize l[p] = c at *
      generalize M1.dec (c :: l.drop (p + 1)) = rw_ at *
      obtain ⟨r, wd⟩ := rw_
      simp only at hnx hhi hlt
      have hbw1 := Lib.below_iterAt hbw (Nat.le_refl _) s (p + wd)
      have hit1 := Lib.iterAt_heap wr w.heap.size s p (p + wd) hit
      generalize wr.iterAt w.heap.size s (p + wd) = w1 at *
      clear hdr
      rcases Nat.lt_or_ge c.toNat 128 with h1 | h1
      · have hrw := hlo h1
        simp only [Prod.mk.injEq] at hrw
        obtain ⟨rfl, rfl⟩ := hrw
        clear hlo hhi
        by_cases hok : M3.okR p (c.toNat : Int)
        · replace hyes := Lib.hid (hB.out.trans (hyes.out hok))
          clear hno hB
          have hok' := hok
          unfold M3.okR at hok'
          clear hok
          generalize c.toNat = r at *
          rcases hok' with ⟨h2, h3⟩ | ⟨h2, h3 | ⟨h3, h4⟩⟩
          · go_wp2
            go_roundw
            case rel => exact ⟨p + 1, by omega, hit1, hbw1, hyes⟩
            case measure => rw [iterPos_of hit1, iterPos_of hit]; omega
          · have h5 : ((p : Int) == 0) = false := by simpa using h2
            obtain rfl : r = 45 := by omega
            go_wp2
            go_roundw
            case rel => exact ⟨p + 1, by omega, hit1, hbw1, hyes⟩
            case measure => rw [iterPos_of hit1, iterPos_of hit]; omega
          · have h5 : ((p : Int) == 0) = false := by simpa using h2
            go_wp2
            go_roundw
            case rel => exact ⟨p + 1, by omega, hit1, hbw1, hyes⟩
            case measure => rw [iterPos_of hit1, iterPos_of hit]; omega
        · replace hno := Lib.hid (hB.out.trans (hno.out hok))
          clear hyes hB
          by_cases h2 : p = 0
          · subst h2
            have hok' : (c.toNat : Int) < 97 ∨ 122 < (c.toNat : Int) := by unfold M3.okR at hok; omega
            clear hok
            generalize c.toNat = r at *
            rcases hok' with h3 | h3
            · go_wp2
              go_ret
              exact ⟨by rw [hno.out]; rfl, hbw1⟩
            · have hd : decide ((r : Int) ≤ 122) = false := decide_eq_false (by omega)
              go_wp2
              go_ret
              exact ⟨by rw [hno.out]; rfl, hbw1⟩
          · have h5 : ((p : Int) == 0) = false := by simpa using h2
            have hok' : (c.toNat : Int) < 45 ∨ (45 < (c.toNat : Int) ∧ (c.toNat : Int) < 48) ∨ (57 < (c.toNat : Int) ∧ (c.toNat : Int) < 97) ∨ 122 < (c.toNat : Int) := by unfold M3.okR at hok; omega
            have h6 : ((c.toNat : Int) == 45) = false := by unfold M3.okR at hok; simp; omega
            clear hok h2
            generalize c.toNat = r at *
            rcases hok' with h3 | ⟨h3, h4⟩ | ⟨h3, h4⟩ | h3
            · go_wp2
              go_ret
              exact ⟨by rw [hno.out]; rfl, hbw1⟩
            · go_wp2
              go_ret
              exact ⟨by rw [hno.out]; rfl, hbw1⟩
            · go_wp2
              go_ret
              exact ⟨by rw [hno.out]; rfl, hbw1⟩
            · have hd : decide ((r : Int) ≤ 122) = false := decide_eq_false (by omega)
              have hd2 : decide ((r : Int) < 48) = false := decide_eq_false (by omega)
              have hd3 : decide (57 < (r : Int)) = true := decide_eq_true (by omega)
              go_wp2
              go_ret
              exact ⟨by rw [hno.out]; rfl, hbw1⟩
      · replace hno := Lib.hid (hB.out.trans (hno.out (by unfold M3.okR; omega)))
        replace hhi := hhi h1
        clear hyes hB hlo h1
        have hd : decide ((r : Int) ≤ 122) = false := decide_eq_false (by omega)
        have hd2 : decide ((r : Int) < 48) = false := decide_eq_false (by omega)
        have hd3 : decide (57 < (r : Int)) = true := decide_eq_true (by omega)
        by_cases h2 : p = 0
        · subst h2
          go_wp2
          go_ret
          exact ⟨by rw [hno.out]; rfl, hbw1⟩
        · have h5 : ((p : Int) == 0) = false := by simpa using h2
          have h6 : ((r : Int) == 45) = false := by simp; omega
          clear h2
          go_wp2
          go_ret
          exact ⟨by rw [hno.out]; rfl, hbw1⟩
    · have hnx := fun ty => Lib.run_next_end_at (P := Try.prog) wr w.heap.size s p ty hit (by omega)
      have hpe : p = l.length := by omega
      subst hpe
      replace hB := Lib.hid (hB.out.trans M3.tail_end)
      cases l with
      | nil =>
        go_wp2
        go_ret
        exact ⟨by rw [hB.out]; rfl, hbw⟩
      | cons c r =>
        go_wp2
        go_ret
        exact ⟨by rw [hB.out]; rfl, hbw⟩
end Go.Proofs.Ytjelmpajphajfaa
