/- Package refs' Decode and Escape: what each call gives, for any text. -/
import Derived.Test.YtjelmpajphajfaaRefs
namespace Go.Proofs.Ytjelmpajphajfaa
open Go.RowKit Go.Maps Go.WideShapes

theorem names_keep {w w' : World} {b B : Nat} (h : Names w b) (hb : Below B w w') (hlt : b < B) : Names w' b := by
  obtain ⟨es, clock, h1, h2⟩ := h
  exact ⟨es, clock, by rw [hb.block b hlt]; exact h1, h2⟩
theorem grown_below {w w' : World} (hb : Below w.heap.size w w') : w.grownBy w' none := ⟨hb.os, hb.tape, hb.output, hb.size, fun k hk _ => hb.block k hk⟩
theorem bldrAt_below {T e : TypeId} {B b : Nat} {p : Value} {bs : List Value} {w w' : World} (h : Lib.BuilderAtF T e B b p bs w) (hb : Below w.heap.size w w') : Lib.BuilderAtF T e B b p bs w' := by
  have hlt := h.lt
  obtain ⟨hB, v, hbk, hown, hne⟩ := h
  refine ⟨hB, v, by rw [hb.block b hlt]; exact hbk, hown.kept (grown_below hb) (by cases v.ownBlock <;> simp), hne⟩
theorem bldr_below {T e : TypeId} {B b : Nat} {bs : List Value} {w w' : World} (h : Lib.IsBuilderF T e B b bs w) (hb : Below w.heap.size w w') : Lib.IsBuilderF T e B b bs w' :=
  h.imp (fun h => bldrAt_below h hb) (fun h => bldrAt_below h hb)
theorem bldr_lt {T e : TypeId} {B b : Nat} {bs : List Value} {w : World} (h : Lib.IsBuilderF T e B b bs w) : b < w.heap.size := by
  rcases h with h | h <;> exact h.lt

/-- How long a text in a slot is. -/
def strSz : Value → Nat
  | .string s => s.size
  | _ => 0

set_option maxHeartbeats 4000000 in
set_option maxRecDepth 100000 in
theorem refsEscape (s : ByteArray) (v : Bool) (w : World) (hs : s.size ≤ 1073741824) :
    Calls Try.prog 86 #[.string s, .bool v] w fun e w' => e = .returned (.string ⟨(M2.escape v s.data.toList).toArray⟩) ∧ Below w.heap.size w w' := by
  go_enter Try.func86, Try.ntmps86
  go_wp2
  go_loopw [10] (fun i wr => ∃ k : Nat, k ≤ s.size ∧ i = .int .i64 k ∧ Lib.IsBuilderF 79 5 w.heap.size w.heap.size (u8s (M2.escape v (s.data.toList.take k))) wr ∧ Below w.heap.size w wr) (fun i _ => s.size - (intOf i).toNat)
  case atStart =>
    exact ⟨0, by omega, rfl, Lib.IsBuilderF.of (Lib.fresh_isBuilder 79 5 w), (Below.refl _ w).alloc (Nat.le_refl _) _⟩
  case round =>
    obtain ⟨k, hk, rfl, hI, hbw⟩ := hrel
    have hle := M2.escape_len v (s.data.toList.take k)
    have hlt1 : (s.data.toList.take k).length ≤ k := List.length_take_le _ _
    have hB := hbw.size
    by_cases hlt : k < s.size
    · have htk : M2.escape v (s.data.toList.take (k + 1)) = M2.escape v (s.data.toList.take k) ++ M2.esc v s[k] := by
        rw [show s.data.toList.take (k + 1) = s.data.toList.take k ++ [s[k]] from List.take_succ_eq_append_getElem (l := s.data.toList) hlt, M2.escape_append]
        simp [M2.escape]
      have fin : ∀ (add : List UInt8) w2, M2.esc v s[k] = add → Lib.BuilderAtF 79 5 w.heap.size w.heap.size (.pointer (some ⟨w.heap.size, 0, none⟩)) (u8s (M2.escape v (s.data.toList.take k)) ++ u8s add) w2 → Below w.heap.size wr w2 →
          ∃ j : Nat, j ≤ s.size ∧ Value.int .i64 ((k : Int) + 1) = .int .i64 j ∧ Lib.IsBuilderF 79 5 w.heap.size w.heap.size (u8s (M2.escape v (s.data.toList.take j))) w2 ∧ Below w.heap.size w w2 := by
        intro add w2 h1 h2 h3
        refine ⟨k + 1, by omega, by go_num, ?_, hbw.trans h3⟩
        rw [htk, u8s_append, h1]
        exact Or.inr h2
      replace fin := Lib.hid fin
      have hWS := fun (x : List UInt8) (h : x.length ≤ 6) => bWriteString w.heap.size w.heap.size (u8s (M2.escape v (s.data.toList.take k))) ⟨x.toArray⟩ wr hI (by rw [u8s_length]; show _ + x.length ≤ _; omega) hB
      have hWB := fun (x : Int) => bWriteByte w.heap.size w.heap.size (u8s (M2.escape v (s.data.toList.take k))) x wr hI (by rw [u8s_length]; omega) hB
      replace hWS := Lib.hid hWS
      replace hWB := Lib.hid hWB
      clear htk hI hle hlt1
      by_cases h38 : s[k] = 38
      · have F := Lib.hid (fin.out [38, 97, 109, 112, 59] · (by rw [h38]; rfl))
        clear fin hWB
        go_wp2_with fail
        refine (hWS.out [38, 97, 109, 112, 59] (by decide)).mono ?_
        rintro e w2 ⟨rfl, hI2, b2, k2⟩
        replace F := Lib.hid (F.out w2 hI2 b2)
        go_wp2
        go_roundw
        case rel => exact F.out
        case measure => simp [intOf]; omega
      have h38b : ((s[k].toNat : Int) == 38) = false := by simp; intro e; exact h38 (UInt8.toNat_inj.1 (by simpa using (by omega : s[k].toNat = 38)))
      by_cases h60 : s[k] = 60
      · have F := Lib.hid (fin.out [38, 108, 116, 59] · (by rw [h60]; rfl))
        clear fin hWB h38
        go_wp2_with fail
        refine (hWS.out [38, 108, 116, 59] (by decide)).mono ?_
        rintro e w2 ⟨rfl, hI2, b2, k2⟩
        replace F := Lib.hid (F.out w2 hI2 b2)
        go_wp2
        go_roundw
        case rel => exact F.out
        case measure => simp [intOf]; omega
      have h60b : ((s[k].toNat : Int) == 60) = false := by simp; intro e; exact h60 (UInt8.toNat_inj.1 (by simpa using (by omega : s[k].toNat = 60)))
      by_cases h62 : s[k] = 62
      · have F := Lib.hid (fin.out [38, 103, 116, 59] · (by rw [h62]; rfl))
        clear fin hWB h38 h60
        go_wp2_with fail
        refine (hWS.out [38, 103, 116, 59] (by decide)).mono ?_
        rintro e w2 ⟨rfl, hI2, b2, k2⟩
        replace F := Lib.hid (F.out w2 hI2 b2)
        go_wp2
        go_roundw
        case rel => exact F.out
        case measure => simp [intOf]; omega
      have h62b : ((s[k].toNat : Int) == 62) = false := by simp; intro e; exact h62 (UInt8.toNat_inj.1 (by simpa using (by omega : s[k].toNat = 62)))
      by_cases h34 : s[k] = 34
      · cases v
        · have F := Lib.hid (fin.out [34] · (by rw [h34]; rfl))
          clear fin hWS h38 h60 h62
          go_wp2_with fail
          refine (hWB.out 34).mono ?_
          rintro e w2 ⟨rfl, hI2, b2, k2⟩
          replace F := Lib.hid (F.out w2 hI2 b2)
          go_wp2
          go_roundw
          case rel => exact F.out
          case measure => simp [intOf]; omega
        · have F := Lib.hid (fin.out [38, 113, 117, 111, 116, 59] · (by rw [h34]; rfl))
          clear fin hWB h38 h60 h62
          go_wp2_with fail
          refine (hWS.out [38, 113, 117, 111, 116, 59] (by decide)).mono ?_
          rintro e w2 ⟨rfl, hI2, b2, k2⟩
          replace F := Lib.hid (F.out w2 hI2 b2)
          go_wp2
          go_roundw
          case rel => exact F.out
          case measure => simp [intOf]; omega
      have h34b : ((s[k].toNat : Int) == 34) = false := by simp; intro e; exact h34 (UInt8.toNat_inj.1 (by simpa using (by omega : s[k].toNat = 34)))
      have F := Lib.hid (fin.out [s[k]] · (by rw [M2.esc, if_neg h38, if_neg h60, if_neg h62, if_neg (fun e => h34 e.1)]))
      clear fin hWS h38 h60 h62 h34
      go_wp2_with fail
      refine (hWB.out (s[k].toNat : Int)).mono ?_
      rintro e w2 ⟨rfl, hI2, b2, k2⟩
      replace F := Lib.hid (F.out w2 hI2 b2)
      go_wp2
      go_roundw
      case rel => exact F.out
      case measure => simp [intOf]; omega
    · go_wp2_with fail
      refine (bString w.heap.size w.heap.size _ _ hI hB).mono ?_
      rintro e W1 ⟨rfl, _, b1, _⟩
      go_wp2
      go_ret
      rw [List.take_of_length_le (show s.data.toList.length ≤ k from by have : s.data.toList.length = s.size := rfl; omega)]
      exact ⟨rfl, hbw.trans b1⟩
end Go.Proofs.Ytjelmpajphajfaa
