/- The document's answers of layer 2, the rest: texts decoded, texts written. -/
import Derived.Test.YtjelmpajphajfaaRef02b
namespace Go.Proofs.Ytjelmpajphajfaa
open Go.RowKit

theorem cat_mk (a : List UInt8) (b : ByteArray) : (⟨a.toArray⟩ : ByteArray) ++ b = ⟨(a ++ b.data.toList).toArray⟩ := by
  apply ByteArray.ext
  simp
theorem str_val {a b : ByteArray} (h : a = b) : Value.string a = .string b := by rw [h]

theorem dec_step (l : List UInt8) (k : Nat) (h : k < l.length) : M2.decode (l.drop k) = match M2.one (l.drop k) with | none => l[k] :: M2.decode (l.drop (k + 1)) | some p => M1.enc p.1 ++ M2.decode (l.drop (k + p.2)) := by
  cases ho : M2.one (l.drop k) with
  | none =>
    have e : l.drop k = l[k] :: l.drop (k + 1) := List.drop_eq_getElem_cons h
    rw [e] at ho ⊢
    exact M2.decode_byte ho
  | some p =>
    obtain ⟨r, n⟩ := p
    rw [M2.decode_ref ho, List.drop_drop]

set_option maxHeartbeats 4000000 in
set_option maxRecDepth 100000 in
theorem ref02Escape (s : ByteArray) (v : Bool) (w : World) (hs : s.size ≤ 1073741824) :
    Calls Try.prog 41 #[.string s, .bool v] w fun e w' => e = .returned (.string ⟨(M2.escape v s.data.toList).toArray⟩) ∧ w' = w := by
  go_enter Try.func41, Try.ntmps41
  go_wp2
  go_loop [5, 6] (fun o i => ∃ k : Nat, k ≤ s.size ∧ i = .int .i64 k ∧ o = .string ⟨(M2.escape v (s.data.toList.take k)).toArray⟩) (fun _ i => s.size - (intOf i).toNat)
  case atStart => exact ⟨0, by omega, rfl, rfl⟩
  case round =>
    obtain ⟨k, hk, rfl, rfl⟩ := hrel
    by_cases hlt : k < s.size
    · have htk : M2.escape v (s.data.toList.take (k + 1)) = M2.escape v (s.data.toList.take k) ++ M2.esc v s[k] := by
        rw [show s.data.toList.take (k + 1) = s.data.toList.take k ++ [s[k]] from List.take_succ_eq_append_getElem (l := s.data.toList) hlt, M2.escape_append]
        simp [M2.escape]
      have hx1 : (s.extract k (k + 1)).data.toList = [s[k]] := by
        rw [Lib.extract_data, show s.data.toList.drop k = s[k] :: s.data.toList.drop (k + 1) from List.drop_eq_getElem_cons hlt]
        simp
      have hlen := M2.escape_len v (s.data.toList.take k)
      have hle1 : (s.data.toList.take k).length ≤ k := List.length_take_le _ _
      have fin : ∀ (add : ByteArray), M2.esc v s[k] = add.data.toList → (⟨(M2.escape v (s.data.toList.take k)).toArray⟩ : ByteArray) ++ add = ⟨(M2.escape v (s.data.toList.take (k + 1))).toArray⟩ := by
        intro add h
        rw [htk, h, cat_mk]
      replace fin := Lib.hid fin
      clear htk
      by_cases h38 : s[k] = 38
      · have F := Lib.hid (fin.out ⟨#[38, 97, 109, 112, 59]⟩ (by rw [h38]; rfl))
        clear fin hx1
        go_wp2
        go_round
        case rel => exact ⟨k + 1, by omega, by go_num, str_val F.out⟩
        case measure => simp [intOf]; omega
      have h38b : ((s[k].toNat : Int) == 38) = false := ne_byte (d := 38) h38
      by_cases h60 : s[k] = 60
      · have F := Lib.hid (fin.out ⟨#[38, 108, 116, 59]⟩ (by rw [h60]; rfl))
        clear fin hx1 h38
        go_wp2
        go_round
        case rel => exact ⟨k + 1, by omega, by go_num, str_val F.out⟩
        case measure => simp [intOf]; omega
      have h60b : ((s[k].toNat : Int) == 60) = false := ne_byte (d := 60) h60
      by_cases h62 : s[k] = 62
      · have F := Lib.hid (fin.out ⟨#[38, 103, 116, 59]⟩ (by rw [h62]; rfl))
        clear fin hx1 h38 h60
        go_wp2
        go_round
        case rel => exact ⟨k + 1, by omega, by go_num, str_val F.out⟩
        case measure => simp [intOf]; omega
      have h62b : ((s[k].toNat : Int) == 62) = false := ne_byte (d := 62) h62
      by_cases h34 : s[k] = 34
      · cases v
        · have F := Lib.hid (fin.out (s.extract k (k + 1)) (by rw [hx1, h34]; rfl))
          clear fin hx1 h38 h60 h62
          go_wp2
          go_round
          case rel => exact ⟨k + 1, by omega, by go_num, str_val F.out⟩
          case measure => simp [intOf]; omega
        · have F := Lib.hid (fin.out ⟨#[38, 113, 117, 111, 116, 59]⟩ (by rw [h34]; rfl))
          clear fin hx1 h38 h60 h62
          go_wp2
          go_round
          case rel => exact ⟨k + 1, by omega, by go_num, str_val F.out⟩
          case measure => simp [intOf]; omega
      have h34b : ((s[k].toNat : Int) == 34) = false := ne_byte (d := 34) h34
      have F := Lib.hid (fin.out (s.extract k (k + 1)) (by rw [hx1, M2.esc, if_neg h38, if_neg h60, if_neg h62, if_neg (fun e => h34 e.1)]))
      clear fin hx1 h38 h60 h62 h34
      go_wp2
      go_round
      case rel => exact ⟨k + 1, by omega, by go_num, str_val F.out⟩
      case measure => simp [intOf]; omega
    · obtain rfl : k = s.size := by omega
      have ht : s.data.toList.take s.size = s.data.toList := List.take_of_length_le (Nat.le_refl _)
      replace ht := Lib.hid ht
      clear hlt
      go_wp2
      go_ret
      rw [ht.out]
      exact ⟨rfl, rfl⟩
end Go.Proofs.Ytjelmpajphajfaa
