/- Attributes' names: strings.ContainsAny at the signs that may not be, for every text; and the reference's own way. -/
import Derived.Test.YtjelmpajphajfaaDom1
import Derived.Test.YtjelmpajphajfaaMath3b
import Derived.Test.YtjelmpajphajfaaRef01c
import Derived.WalkMore
namespace Go.Proofs.Ytjelmpajphajfaa
open Go.RowKit

abbrev c7 : ByteArray := ⟨#[9, 10, 12, 32, 47, 62, 61]⟩

/-- A character beyond the plain ones is two, three or four bytes, each of them beyond them. -/
theorem encode_high (r : Int) (h0 : 128 ≤ r) (h1 : r ≤ 1114111) (hs : r < 55296 ∨ 57343 < r) :
    (∃ a b : UInt8, Utf8.encode r = ⟨#[a, b]⟩ ∧ 128 ≤ b.toNat) ∨ (∃ a b c : UInt8, Utf8.encode r = ⟨#[a, b, c]⟩ ∧ 128 ≤ c.toNat) ∨ (∃ a b c d : UInt8, Utf8.encode r = ⟨#[a, b, c, d]⟩ ∧ 128 ≤ d.toNat) := by
  have hv : Utf8.valid r = true := by rw [M1.valid_iff]; exact decide_eq_true (by unfold M1.okRune; omega)
  unfold Utf8.encode
  simp only [hv, if_true]
  obtain ⟨n, rfl⟩ := Int.eq_ofNat_of_zero_le (show 0 ≤ r by omega)
  simp only [Int.toNat_natCast]
  rw [if_neg (by omega)]
  split
  · exact Or.inl ⟨_, _, rfl, by rw [M1.toNat_u8 _ (by omega)]; omega⟩
  split
  · exact Or.inr (Or.inl ⟨_, _, _, rfl, by rw [M1.toNat_u8 _ (by omega)]; omega⟩)
  · exact Or.inr (Or.inr ⟨_, _, _, _, rfl, by rw [M1.toNat_u8 _ (by omega)]; omega⟩)

set_option maxHeartbeats 1000000 in
theorem validRune (r : Int) (w : World) (h0 : 128 ≤ r) (h1 : r ≤ 1114111) (hs : r < 55296 ∨ 57343 < r) :
    Calls Try.prog 109 #[.int .i32 r] w fun e w' => e = .returned (.bool true) ∧ w' = w := by
  rcases hs with hs | hs
  · go_enter Try.func109, Try.ntmps109
    go_wp2
    go_ret
    exact ⟨rfl, rfl⟩
  · have hd : decide (r < 55296) = false := decide_eq_false (by omega)
    go_enter Try.func109, Try.ntmps109
    go_wp2
    go_ret
    exact ⟨rfl, rfl⟩
theorem quiet_add_same {P : Program} {f : FuncId} {args : Array Value} {w : World} {a n : Nat} {v : Value}
    (h : Calls P f args (w.drewN (a + n)) fun e w' => e = .returned v ∧ w' = w.drewN (a + n)) :
    Calls P f args (w.drewN (a + n)) fun e w'' => e = .returned v ∧ ∃ m, w'' = w.drewN (a + m) :=
  h.mono fun _ _ ⟨he, hm⟩ => ⟨he, n, hm⟩
theorem below_drewN {B : Nat} {a w : World} (h : Below B a w) (n : Nat) : Below B a (w.drewN n) := ⟨h.os, h.tape, h.output, h.size, h.block⟩

theorem sIndexByteHigh (s : ByteArray) (b : UInt8) (w : World) (hb : 128 ≤ b.toNat) (hs : s.data.toList.all (fun x => decide (x.toNat < 128)) = true) :
    Calls Try.prog 108 #[.string s, .int .u8 (b.toNat : Int)] w fun e w' => e = .returned (.int .i64 (-1)) ∧ w' = w :=
  (sIndexByte s b.toNat w).mono fun e w' ⟨h1, h2⟩ => ⟨by
    rw [h1]
    simp only [Int.toNat_natCast, Nat.toUInt8_eq, UInt8.ofNat_toNat]
    rw [M2.indexByte_no]
    intro hm
    have := of_decide_eq_true (List.all_eq_true.1 hs _ hm)
    omega, h2⟩

set_option maxHeartbeats 4000000 in
set_option maxRecDepth 100000 in
theorem indexRune7_two (r : Int) (a b : UInt8) (w : World) (h0 : 128 ≤ r) (h1 : r ≤ 1114111) (hb : (r == 65533) = false) (hs : r < 55296 ∨ 57343 < r) (he : Utf8.encode r = ⟨#[a, b]⟩) (hbb : 128 ≤ b.toNat) :
    Calls Try.prog 104 #[.string c7, .int .i32 r] w fun e w' => e = .returned (.int .i64 (-1)) ∧ Below w.heap.size w w' := by
  have hd : decide (r < 128) = false := decide_eq_false (by omega)
  have hv := Lib.hid (fun w => validRune r w h0 h1 hs)
  clear hs
  go_enter Try.func104, Try.ntmps104
  go_wp2_with (go_at_call 109; refine (hv.out _).mono ?_; rintro e w1 ⟨rfl, rfl⟩)
  go_step3
  go_wp2_with (go_at_call 109; refine (hv.out _).mono ?_; rintro e w1 ⟨rfl, rfl⟩)
  go_loop [9] (fun i => i = .int .i64 1) (fun _ => 0)
  case atStart => rfl
  case round =>
    obtain rfl := hrel
    have hq : (((c7[1]'(by decide)).toNat : Int) != (((⟨#[a, b]⟩ : ByteArray)[1]'(by show 1 < 2; decide)).toNat : Int)) = true := by
      show ((10 : Int) != (b.toNat : Int)) = true
      simp; omega
    go_wp2
    go_step3
    go_wp2
    go_quiet (fail)
    go_wp2
    go_quiet ((go_at_call 108; exact quiet_add_same (sIndexByteHigh _ _ _ hbb (by decide))))
    go_wp2
    rw [Exit.noGoto_ret]
    go_wp2
    rw [Exit.noGoto_ret]
    go_wp2
    go_ret
    exact ⟨rfl, ⟨rfl, rfl, rfl, Nat.le_refl _, fun _ _ => rfl⟩⟩
set_option maxHeartbeats 4000000 in
set_option maxRecDepth 100000 in
theorem indexRune7_three (r : Int) (a b c : UInt8) (w : World) (h0 : 128 ≤ r) (h1 : r ≤ 1114111) (hb : (r == 65533) = false) (hs : r < 55296 ∨ 57343 < r) (he : Utf8.encode r = ⟨#[a, b, c]⟩) (hbb : 128 ≤ c.toNat) :
    Calls Try.prog 104 #[.string c7, .int .i32 r] w fun e w' => e = .returned (.int .i64 (-1)) ∧ Below w.heap.size w w' := by
  have hd : decide (r < 128) = false := decide_eq_false (by omega)
  have hv := Lib.hid (fun w => validRune r w h0 h1 hs)
  clear hs
  go_enter Try.func104, Try.ntmps104
  go_wp2_with (go_at_call 109; refine (hv.out _).mono ?_; rintro e w1 ⟨rfl, rfl⟩)
  go_step3
  go_wp2_with (go_at_call 109; refine (hv.out _).mono ?_; rintro e w1 ⟨rfl, rfl⟩)
  go_loop [9] (fun i => i = .int .i64 2) (fun _ => 0)
  case atStart => rfl
  case round =>
    obtain rfl := hrel
    have hq : (((c7[2]'(by decide)).toNat : Int) != (((⟨#[a, b, c]⟩ : ByteArray)[2]'(by show 2 < 3; decide)).toNat : Int)) = true := by
      show ((12 : Int) != (c.toNat : Int)) = true
      simp; omega
    go_wp2
    go_step3
    go_wp2
    go_quiet (fail)
    go_wp2
    go_quiet ((go_at_call 108; exact quiet_add_same (sIndexByteHigh _ _ _ hbb (by decide))))
    go_wp2
    rw [Exit.noGoto_ret]
    go_wp2
    rw [Exit.noGoto_ret]
    go_wp2
    go_ret
    exact ⟨rfl, ⟨rfl, rfl, rfl, Nat.le_refl _, fun _ _ => rfl⟩⟩
set_option maxHeartbeats 4000000 in
set_option maxRecDepth 100000 in
theorem indexRune7_four (r : Int) (a b c d : UInt8) (w : World) (h0 : 128 ≤ r) (h1 : r ≤ 1114111) (hb : (r == 65533) = false) (hs : r < 55296 ∨ 57343 < r) (he : Utf8.encode r = ⟨#[a, b, c, d]⟩) (hbb : 128 ≤ d.toNat) :
    Calls Try.prog 104 #[.string c7, .int .i32 r] w fun e w' => e = .returned (.int .i64 (-1)) ∧ Below w.heap.size w w' := by
  have hd : decide (r < 128) = false := decide_eq_false (by omega)
  have hv := Lib.hid (fun w => validRune r w h0 h1 hs)
  clear hs
  go_enter Try.func104, Try.ntmps104
  go_wp2_with (go_at_call 109; refine (hv.out _).mono ?_; rintro e w1 ⟨rfl, rfl⟩)
  go_step3
  go_wp2_with (go_at_call 109; refine (hv.out _).mono ?_; rintro e w1 ⟨rfl, rfl⟩)
  go_loop [9] (fun i => i = .int .i64 3) (fun _ => 0)
  case atStart => rfl
  case round =>
    obtain rfl := hrel
    have hq : (((c7[3]'(by decide)).toNat : Int) != (((⟨#[a, b, c, d]⟩ : ByteArray)[3]'(by show 3 < 4; decide)).toNat : Int)) = true := by
      show ((32 : Int) != (d.toNat : Int)) = true
      simp; omega
    go_wp2
    go_step3
    go_wp2
    go_quiet (fail)
    go_wp2
    go_quiet ((go_at_call 108; exact quiet_add_same (sIndexByteHigh _ _ _ hbb (by decide))))
    go_wp2
    rw [Exit.noGoto_ret]
    go_wp2
    rw [Exit.noGoto_ret]
    go_wp2
    go_ret
    exact ⟨rfl, ⟨rfl, rfl, rfl, Nat.le_refl _, fun _ _ => rfl⟩⟩
set_option maxHeartbeats 4000000 in
set_option maxRecDepth 100000 in
theorem indexRune7_bad (w : World) :
    Calls Try.prog 104 #[.string c7, .int .i32 65533] w fun e w' => e = .returned (.int .i64 (-1)) ∧ Below w.heap.size w w' := by
  go_enter Try.func104, Try.ntmps104
  go_wp2
  go_loopw [] (fun wr => ∃ p : Nat, p ≤ 7 ∧ wr.heap[w.heap.size]? = some (.stringIter c7 p) ∧ Below w.heap.size w wr) (fun wr => 7 - wr.iterPos w.heap.size)
  case atStart => exact ⟨0, by omega, World.iter_heap w c7 0, (Below.refl _ w).alloc (Nat.le_refl _) _⟩
  case round =>
    obtain ⟨p, hpl, hit, hbw⟩ := hrel
    have hsz : w.heap.size < wr.heap.size := (Array.getElem?_eq_some_iff.1 hit).1
    by_cases hp : p < 7
    · have hnx := next_dec (P := Try.prog) wr w.heap.size c7 p hit hp
      have hd : ∃ x : Nat, M1.dec (c7.data.toList.drop p) = (x, 1) ∧ x < 128 := by
        have : p = 0 ∨ p = 1 ∨ p = 2 ∨ p = 3 ∨ p = 4 ∨ p = 5 ∨ p = 6 := by omega
        rcases this with rfl | rfl | rfl | rfl | rfl | rfl | rfl <;> exact ⟨_, M2.dec_lo _ _ (by decide), by decide⟩
      obtain ⟨x, hx, hx2⟩ := hd
      rw [hx] at hnx
      have hbw1 := Lib.below_iterAt hbw (Nat.le_refl _) c7 (p + 1)
      have hit1 := Lib.iterAt_heap wr w.heap.size c7 p (p + 1) hit
      simp only at hnx
      generalize wr.iterAt w.heap.size c7 (p + 1) = w1 at *
      have hne : ((x : Int) == 65533) = false := by simp; omega
      clear hx
      go_wp2
      go_roundw
      case rel => exact ⟨p + 1, by omega, hit1, hbw1⟩
      case measure => rw [iterPos_of hit1, iterPos_of hit]; omega
    · have hnx := fun ty => Lib.run_next_end_at (P := Try.prog) wr w.heap.size c7 p ty hit (by show ¬ p < 7; omega)
      go_wp2
      try rw [Exit.noGoto_ret]
      go_wp2
      go_ret
      exact ⟨rfl, hbw⟩

/-- strings.IndexRune at the seven signs: any character. -/
theorem indexRune7 (r : Int) (w : World) (h0 : 0 ≤ r) (hs : r < 55296 ∨ 57343 < r) (h1 : r ≤ 1114111) :
    Calls Try.prog 104 #[.string c7, .int .i32 r] w fun e w' => ∃ z : Int, e = .returned (.int .i64 z) ∧ decide (0 ≤ z) = (decide (r < 128) && M3.badB r.toNat.toUInt8) ∧ Below w.heap.size w w' := by
  by_cases h128 : r < 128
  · refine (Try.strings_IndexRune_ascii c7 r w h0 h128).mono fun e w' ⟨h2, h3⟩ => ⟨_, h2, ?_, by rw [h3]; exact Below.refl _ _⟩
    rw [M3.badB_eq, Lib.contains_iff_indexByte, decide_eq_true h128, Bool.true_and]
  · have hd : (decide (r < 128) && M3.badB r.toNat.toUInt8) = false := by rw [decide_eq_false h128]; rfl
    rw [hd]
    by_cases hb : r = 65533
    · subst hb
      exact (indexRune7_bad w).mono fun e w' ⟨h2, h3⟩ => ⟨_, h2, rfl, h3⟩
    · have hbb : (r == 65533) = false := by simpa using hb
      rcases encode_high r (by omega) h1 hs with ⟨a, b, he, h⟩ | ⟨a, b, c, he, h⟩ | ⟨a, b, c, d, he, h⟩
      · exact (indexRune7_two r a b w (by omega) h1 hbb hs he h).mono fun e w' ⟨h2, h3⟩ => ⟨_, h2, rfl, h3⟩
      · exact (indexRune7_three r a b c w (by omega) h1 hbb hs he h).mono fun e w' ⟨h2, h3⟩ => ⟨_, h2, rfl, h3⟩
      · exact (indexRune7_four r a b c d w (by omega) h1 hbb hs he h).mono fun e w' ⟨h2, h3⟩ => ⟨_, h2, rfl, h3⟩
end Go.Proofs.Ytjelmpajphajfaa
