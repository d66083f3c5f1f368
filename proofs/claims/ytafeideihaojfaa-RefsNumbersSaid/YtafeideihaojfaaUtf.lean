/- Package utf's functions: what each call gives, for any bytes. -/
import Derived.Test.YtafeideihaojfaaBuilder
import Derived.Test.YtafeideihaojfaaKit
import Derived.Test.YtafeideihaojfaaMath1
import Derived.BigCall
import Derived.Deep.QuietTactic
import Derived.BigQuiet
namespace Go.Proofs.Ytafeideihaojfaa
open Go.RowKit

theorem info32 : (Try.prog.info? 21).map (fun i => (i.zero, i.size, i.bytes)) = some (some (.int .i32 0), 1, 4) := by kernel_rfl

/-- 'next' on a text, by lists. -/
theorem next_dec {P : Program} (w : World) (k : Nat) (s : ByteArray) (pos : Nat) (hk : w.heap[k]? = some (.stringIter s pos)) (h : pos < s.size) : ∀ ty,
    (Instr.next (.pointer (some ⟨k, 0, none⟩)) true ty).run P w =
      .ok (.tuple #[.bool true, .int .i64 pos, .int .i32 (M1.dec (s.data.toList.drop pos)).1]) (w.iterAt k s (pos + (M1.dec (s.data.toList.drop pos)).2)) := fun ty => by
  rw [Lib.run_next_any_at w k s pos ty hk h, M1.decode_eq]

theorem drop_ne {l : List UInt8} {k : Nat} (h : k < l.length) : l.drop k ≠ [] := by
  intro e
  have := congrArg List.length e
  simp at this
  omega

/-- Does the text begin with the form of 65533? -/
def spelt3 (s : ByteArray) : Bool := s.data.toList.take 3 == [239, 191, 189]

set_option maxHeartbeats 1000000 in
set_option maxRecDepth 100000 in
theorem utfSpelt (s : ByteArray) (w : World) :
    Calls Try.prog 35 #[.string s] w fun e w' => e = .returned (.bool (spelt3 s)) ∧ w' = w := by
  go_enter Try.func35, Try.ntmps35
  go_wp2_with (go_at_call 22; refine (hasPrefix_any _ _ _).mono ?_; rintro e w1 ⟨rfl, rfl⟩)
  go_ret
  refine ⟨?_, rfl⟩
  rw [← Lib.hasPrefix_of_take]
  unfold spelt3
  by_cases h : s.data.toList.take 3 = [239, 191, 189]
  · have : 3 ≤ s.data.toList.length := by have := congrArg List.length h; rw [List.length_take] at this; simp at this; simp; omega
    simp [h]
    simpa using this
  · have : (s.data.toList.take 3 == [239, 191, 189]) = false := by simpa using h
    simp [this]

set_option maxHeartbeats 1000000 in
set_option maxRecDepth 100000 in
theorem utfIs (s : ByteArray) (w : World) (hs : s.size ≤ 9223372036854775807) :
    Calls Try.prog 21 #[.string s] w fun e w' => e = .returned (.bool (M1.isB s.data.toList)) ∧ Below w.heap.size w w' := by
  go_enter Try.func21, Try.ntmps21
  go_wp2
  go_loopw [] (fun wr => ∃ pos : Nat, pos ≤ s.size ∧ wr.heap[w.heap.size]? = some (.stringIter s pos) ∧ Below w.heap.size w wr ∧ Hid (M1.isB s.data.toList = M1.isB (s.data.toList.drop pos))) (fun wr => s.size - wr.iterPos w.heap.size)
  case atStart => exact ⟨0, by omega, World.iter_heap w s 0, (Below.refl _ w).alloc (Nat.le_refl _) _, rfl⟩
  case round =>
    obtain ⟨pos, hpl, hit, hbw, hB⟩ := hrel
    have hsz : w.heap.size < wr.heap.size := (Array.getElem?_eq_some_iff.1 hit).1
    by_cases hp : pos < s.size
    · have hp' : pos < s.data.toList.length := hp
      have hne := drop_ne hp'
      have hnx := next_dec (P := Try.prog) wr w.heap.size s pos hit hp
      have hst0 := M1.isB_step _ hne
      have hw1 := M1.dec_pos _ hne
      have hw2 := M1.dec_le _ hne
      have hlt := M1.dec_lt (s.data.toList.drop pos)
      rw [List.drop_drop] at hst0
      rw [List.length_drop, show s.data.toList.length = s.size from rfl] at hw2
      rw [← hB.out] at hst0
      generalize (M1.dec (s.data.toList.drop pos)).1 = r at *
      generalize (M1.dec (s.data.toList.drop pos)).2 = wd at *
      have hbw1 := Lib.below_iterAt hbw (Nat.le_refl _) s (pos + wd)
      have hit1 := Lib.iterAt_heap wr w.heap.size s pos (pos + wd) hit
      generalize wr.iterAt w.heap.size s (pos + wd) = w1 at *
      have hst := Lib.hid hst0
      clear hst0 hne hB
      by_cases h0 : r = 0
      · subst h0
        go_wp2
        go_ret
        exact ⟨by rw [hst.out]; rfl, hbw1⟩
      by_cases h13 : r = 13
      · subst h13
        go_wp2
        go_ret
        exact ⟨by rw [hst.out]; rfl, hbw1⟩
      have h0b : ((r : Int) == 0) = false := by simpa using h0
      have h13b : ((r : Int) == 13) = false := by simp; omega
      by_cases hf : r = 65533
      · subst hf
        have hq : ∃ q, spelt3 (s.extract pos s.size) = q ∧ Hid (M1.isB s.data.toList = (q && M1.isB (s.data.toList.drop (pos + wd)))) := by
          refine ⟨_, rfl, ?_⟩
          show _ = _
          rw [hst.out, spelt3, extract_end]
          simp
        obtain ⟨q, hq1, hq2⟩ := hq
        cases q
        · go_wp2_with (go_at_call 35; refine (utfSpelt _ _).mono ?_; rintro e w2 ⟨rfl, rfl⟩)
          go_ret
          exact ⟨by rw [hq2.out]; rfl, hbw1⟩
        · go_wp2_with (go_at_call 35; refine (utfSpelt _ _).mono ?_; rintro e w2 ⟨rfl, rfl⟩)
          go_roundw
          case rel => exact ⟨pos + wd, by omega, hit1, hbw1, hq2⟩
          case measure => rw [iterPos_of hit1, iterPos_of hit]; omega
      · have hfb : ((r : Int) == 65533) = false := by simp; omega
        have hB : Hid (M1.isB s.data.toList = M1.isB (s.data.toList.drop (pos + wd))) := by
          show _ = _
          rw [hst.out]; simp [h0, h13, hf]
        go_wp2
        go_roundw
        case rel => exact ⟨pos + wd, by omega, hit1, hbw1, hB⟩
        case measure => rw [iterPos_of hit1, iterPos_of hit]; omega
    · have hnx := fun ty => Lib.run_next_end_at (P := Try.prog) wr w.heap.size s pos ty hit hp
      go_wp2
      go_ret
      have h := hB.out
      rw [List.drop_of_length_le (show s.data.toList.length ≤ pos from by have : s.data.toList.length = s.size := rfl; omega), M1.isB_nil] at h
      exact ⟨by rw [h]; rfl, hbw⟩
end Go.Proofs.Ytafeideihaojfaa
