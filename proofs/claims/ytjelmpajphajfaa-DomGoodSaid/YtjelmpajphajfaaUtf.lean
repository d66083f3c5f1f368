/- Package utf's functions: what each call gives, for any bytes. -/
import Derived.Test.YtjelmpajphajfaaBuilder
import Derived.Test.YtjelmpajphajfaaKit
import Derived.Test.YtjelmpajphajfaaMath1
import Derived.BigCall
import Derived.Deep.QuietTactic
import Derived.BigQuiet
namespace Go.Proofs.Ytjelmpajphajfaa
open Go.RowKit

theorem info32 : (Try.prog.info? 21).map (fun i => (i.zero, i.size, i.bytes)) = some (some (.int .i32 0), 1, 4) := by kernel_rfl

/-- 'next' on a text, by lists. -/
theorem next_dec {P : Program} (w : World) (k : Nat) (s : ByteArray) (pos : Nat) (hk : w.heap[k]? = some (.stringIter s pos)) (h : pos < s.size) : ∀ ty,
    (Instr.next (.pointer (some ⟨k, 0, none⟩)) true ty).run P w =
      .ok (.tuple #[.bool true, .int .i64 pos, .int .i32 (M1.dec (s.data.toList.drop pos)).1]) (w.iterAt k s (pos + (M1.dec (s.data.toList.drop pos)).2)) := fun ty => by
  rw [Lib.run_next_any_at w k s pos ty hk h, M1.decode_eq]

theorem drop_ne {l : List UInt8} {k : Nat} (h : k < l.length) : l.drop k ≠ [] := by
  intro e
  have := congrArg List.length e
  simp at this
  omega

set_option maxHeartbeats 1000000 in
theorem utfSmall (c : UInt8) (w : World) :
    Calls Try.prog 102 #[.int .u8 (c.toNat : Int)] w fun e w' => e = .returned (.int .u8 ((M1.small c).toNat : Int)) ∧ w' = w := by
  have h := M1.small_nat c
  have hc := c.toNat_lt
  generalize (M1.small c).toNat = m at *
  generalize c.toNat = n at *
  have hc : n < 256 := hc
  by_cases h0 : 65 ≤ n ∧ n ≤ 90
  · rw [if_pos h0] at h
    obtain ⟨h1, h2⟩ := h0
    subst h
    go_enter Try.func102, Try.ntmps102
    go_wp2
    go_ret
    refine ⟨?_, rfl⟩
    show Ending.returned (.int .u8 ((n : Int) - 65 + 97)) = _
    rw [show (n : Int) - 65 + 97 = ((n + 32 : Nat) : Int) by omega]
  · rw [if_neg h0] at h
    subst h
    go_enter Try.func102, Try.ntmps102
    go_wp2
    all_goals go_ret
    all_goals exact ⟨rfl, rfl⟩

/-- Does the text begin with the form of 65533? -/
def spelt3 (s : ByteArray) : Bool := s.data.toList.take 3 == [239, 191, 189]

set_option maxHeartbeats 1000000 in
set_option maxRecDepth 100000 in
theorem utfSpelt (s : ByteArray) (w : World) :
    Calls Try.prog 89 #[.string s] w fun e w' => e = .returned (.bool (spelt3 s)) ∧ w' = w := by
  go_enter Try.func89, Try.ntmps89
  go_wp2_with (go_at_call 96; refine (hasPrefix_any _ _ _).mono ?_; rintro e w1 ⟨rfl, rfl⟩)
  go_ret
  refine ⟨?_, rfl⟩
  rw [← Lib.hasPrefix_of_take]
  unfold spelt3
  by_cases h : s.data.toList.take 3 = [239, 191, 189]
  · have : 3 ≤ s.data.toList.length := by have := congrArg List.length h; rw [List.length_take] at this; simp at this; simp; omega
    simp [h]
    simpa using this
  · have : (s.data.toList.take 3 == [239, 191, 189]) = false := by simpa using h
    simp [this]

set_option maxHeartbeats 1000000 in
set_option maxRecDepth 100000 in
theorem utfFold (s : ByteArray) (w : World) (hs : s.size ≤ 140737488355328) :
    Calls Try.prog 99 #[.string s] w fun e w' => e = .returned (.string ⟨(M1.fold s.data.toList).toArray⟩) ∧ Below w.heap.size w w' := by
  have hcv := Lib.run_convert_string_bytes (P := Try.prog) w 9 38 5 s Try.underlying9 Try.underlying38 Try.underlying5
  have hcap := grownCap_ge w s.size 0 5
  have hcap2 := grownCap_le_maxLen w s.size 0 5 (by unfold maxLen; omega)
  unfold maxLen at hcap2
  have hM := MutRow.bytes w 5 s
  have hB := below_bytesWorld w 5 s
  have hz := Lib.bytesWorld_size w 5 s
  generalize grownCap w s.size 0 5 = cap at *
  generalize Lib.bytesWorld w 5 s = w0 at *
  have hz := Lib.hid hz
  go_enter Try.func99, Try.ntmps99
  go_wp2
  go_loopw [10] (fun i wr => ∃ k : Nat, k ≤ s.size ∧ i = .int .i64 k ∧ Below w.heap.size w wr ∧ MutRow wr w.heap.size (u8s (M1.foldTo s.data.toList k))) (fun i _ => s.size - (intOf i).toNat)
  case atStart => exact ⟨0, by omega, rfl, hB, by rw [M1.foldTo_zero]; exact hM⟩
  case round =>
    obtain ⟨k, hk, rfl, hbw, hR⟩ := hrel
    have hlen : (u8s (M1.foldTo s.data.toList k)).length ≤ s.size ∧ s.size ≤ (u8s (M1.foldTo s.data.toList k)).length := by
      have : s.data.toList.length = s.size := rfl
      rw [u8s_length, M1.foldTo_length]
      omega
    by_cases hlt : k < s.size
    · have hls : k < s.data.toList.length := hlt
      obtain ⟨hc, hf⟩ := hR.at (u8s_get _ _ _ (M1.foldTo_get _ k hls))
      have hset := hR.set (k := k) (by omega) (.int .u8 ((M1.small s.data.toList[k]).toNat : Int))
      rw [u8s_set, M1.foldTo_set _ k hls] at hset
      clear hR hlen
      generalize s.data.toList[k] = c at *
      go_wp2_with (go_at_call 102; refine (utfSmall _ _).mono ?_; rintro e w1 ⟨rfl, rfl⟩)
      go_roundw
      case rel => exact ⟨k + 1, by omega, by go_num, hbw.setCell (Nat.le_refl _) _, hset⟩
      case measure => simp [intOf]; omega
    · obtain rfl : k = s.size := by omega
      rw [M1.foldTo_all _ _ (show s.data.toList.length ≤ s.size from Nat.le_refl _)] at hR
      have hfl : (u8s (M1.fold s.data.toList)).length = s.size := by rw [u8s_length]; simp [M1.fold]
      have hsl := hR.sl (cap := cap) (by omega) hcap2
      rw [hfl] at hsl
      have hcv2 := hsl.toString 38 9 5 Try.underlying38 Try.underlying5 Try.underlying9
      clear hfl
      go_wp2
      go_ret
      exact ⟨rfl, hbw⟩

set_option maxHeartbeats 1000000 in
set_option maxRecDepth 100000 in
theorem utfIs (s : ByteArray) (w : World) (hs : s.size ≤ 9223372036854775807) :
    Calls Try.prog 72 #[.string s] w fun e w' => e = .returned (.bool (M1.isB s.data.toList)) ∧ Below w.heap.size w w' := by
  go_enter Try.func72, Try.ntmps72
  go_wp2
  go_loopw [] (fun wr => ∃ pos : Nat, pos ≤ s.size ∧ wr.heap[w.heap.size]? = some (.stringIter s pos) ∧ Below w.heap.size w wr ∧ Hid (M1.isB s.data.toList = M1.isB (s.data.toList.drop pos))) (fun wr => s.size - wr.iterPos w.heap.size)
  case atStart => exact ⟨0, by omega, World.iter_heap w s 0, (Below.refl _ w).alloc (Nat.le_refl _) _, rfl⟩
  case round =>
    obtain ⟨pos, hpl, hit, hbw, hB⟩ := hrel
    have hsz : w.heap.size < wr.heap.size := (Array.getElem?_eq_some_iff.1 hit).1
    by_cases hp : pos < s.size
    · have hp' : pos < s.data.toList.length := hp
      have hne := drop_ne hp'
      have hnx := next_dec (P := Try.prog) wr w.heap.size s pos hit hp
      have hst0 := M1.isB_step _ hne
      have hw1 := M1.dec_pos _ hne
      have hw2 := M1.dec_le _ hne
      have hlt := M1.dec_lt (s.data.toList.drop pos)
      rw [List.drop_drop] at hst0
      rw [List.length_drop, show s.data.toList.length = s.size from rfl] at hw2
      rw [← hB.out] at hst0
      generalize (M1.dec (s.data.toList.drop pos)).1 = r at *
      generalize (M1.dec (s.data.toList.drop pos)).2 = wd at *
      have hbw1 := Lib.below_iterAt hbw (Nat.le_refl _) s (pos + wd)
      have hit1 := Lib.iterAt_heap wr w.heap.size s pos (pos + wd) hit
      generalize wr.iterAt w.heap.size s (pos + wd) = w1 at *
      have hst := Lib.hid hst0
      clear hst0 hne hB
      by_cases h0 : r = 0
      · subst h0
        go_wp2
        go_ret
        exact ⟨by rw [hst.out]; rfl, hbw1⟩
      by_cases h13 : r = 13
      · subst h13
        go_wp2
        go_ret
        exact ⟨by rw [hst.out]; rfl, hbw1⟩
      have h0b : ((r : Int) == 0) = false := by simpa using h0
      have h13b : ((r : Int) == 13) = false := by simp; omega
      by_cases hf : r = 65533
      · subst hf
        have hq : ∃ q, spelt3 (s.extract pos s.size) = q ∧ Hid (M1.isB s.data.toList = (q && M1.isB (s.data.toList.drop (pos + wd)))) := by
          refine ⟨_, rfl, ?_⟩
          show _ = _
          rw [hst.out, spelt3, extract_end]
          simp
        obtain ⟨q, hq1, hq2⟩ := hq
        cases q
        · go_wp2_with (go_at_call 89; refine (utfSpelt _ _).mono ?_; rintro e w2 ⟨rfl, rfl⟩)
          go_ret
          exact ⟨by rw [hq2.out]; rfl, hbw1⟩
        · go_wp2_with (go_at_call 89; refine (utfSpelt _ _).mono ?_; rintro e w2 ⟨rfl, rfl⟩)
          go_roundw
          case rel => exact ⟨pos + wd, by omega, hit1, hbw1, hq2⟩
          case measure => rw [iterPos_of hit1, iterPos_of hit]; omega
      · have hfb : ((r : Int) == 65533) = false := by simp; omega
        have hB : Hid (M1.isB s.data.toList = M1.isB (s.data.toList.drop (pos + wd))) := by
          show _ = _
          rw [hst.out]; simp [h0, h13, hf]
        go_wp2
        go_roundw
        case rel => exact ⟨pos + wd, by omega, hit1, hbw1, hB⟩
        case measure => rw [iterPos_of hit1, iterPos_of hit]; omega
    · have hnx := fun ty => Lib.run_next_end_at (P := Try.prog) wr w.heap.size s pos ty hit hp
      go_wp2
      go_ret
      have h := hB.out
      rw [List.drop_of_length_le (show s.data.toList.length ≤ pos from by have : s.data.toList.length = s.size := rfl; omega), M1.isB_nil] at h
      exact ⟨by rw [h]; rfl, hbw⟩
end Go.Proofs.Ytjelmpajphajfaa
