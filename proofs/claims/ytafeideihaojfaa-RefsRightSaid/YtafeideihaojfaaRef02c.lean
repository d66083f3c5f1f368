/- The document's answers of layer 2, the rest: texts decoded, texts written. -/
import Derived.Test.YtafeideihaojfaaRef02b
namespace Go.Proofs.Ytafeideihaojfaa
open Go.RowKit

theorem cat_mk (a : List UInt8) (b : ByteArray) : (⟨a.toArray⟩ : ByteArray) ++ b = ⟨(a ++ b.data.toList).toArray⟩ := by
  apply ByteArray.ext
  simp
theorem str_val {a b : ByteArray} (h : a = b) : Value.string a = .string b := by rw [h]

theorem dec_step (l : List UInt8) (k : Nat) (h : k < l.length) : M2.decode (l.drop k) = match M2.one (l.drop k) with | none => l[k] :: M2.decode (l.drop (k + 1)) | some p => M1.enc p.1 ++ M2.decode (l.drop (k + p.2)) := by
  cases ho : M2.one (l.drop k) with
  | none =>
    have e : l.drop k = l[k] :: l.drop (k + 1) := List.drop_eq_getElem_cons h
    rw [e] at ho ⊢
    exact M2.decode_byte ho
  | some p =>
    obtain ⟨r, n⟩ := p
    rw [M2.decode_ref ho, List.drop_drop]

set_option maxHeartbeats 4000000 in
set_option maxRecDepth 100000 in
theorem ref02Decode (s : ByteArray) (w : World) (hs : s.size ≤ 1073741824) :
    Calls Try.prog 17 #[.string s] w fun e w' => e = .returned (.string ⟨(M2.decode s.data.toList).toArray⟩) ∧ Below w.heap.size w w' := by
  have hfr := fun (r : Int) (wr : World) => Sl.fresh' wr 21 [.int .i32 r] 1 rfl (by omega)
  have hbl := fun (wr : World) (o : Obj) => (Below.refl wr.heap.size wr).alloc (Nat.le_refl _) o
  replace hfr := Lib.hid hfr
  replace hbl := Lib.hid hbl
  generalize hD : M2.decode s.data.toList = D
  replace hD := Lib.hid hD
  go_enter Try.func17, Try.ntmps17
  go_wp2
  go_loopw [3, 4] (fun o i wr => ∃ (k : Nat) (acc : List UInt8), k ≤ s.size ∧ i = .int .i64 k ∧ o = .string ⟨acc.toArray⟩ ∧ acc.length ≤ 4 * k ∧ Below w.heap.size w wr ∧ Hid (D = acc ++ M2.decode (s.data.toList.drop k))) (fun _ i _ => s.size - (intOf i).toNat)
  case atStart => exact ⟨0, [], by omega, rfl, rfl, by simp, Below.refl _ _, hD.out.symm⟩
  case round =>
    obtain ⟨k, acc, hk, rfl, rfl, hal, hbw, hacc⟩ := hrel
    by_cases hlt : k < s.size
    · have hst := dec_step s.data.toList k hlt
      have hx : (s.extract k s.size).data.toList = s.data.toList.drop k := extract_end s k
      have hz : (s.extract k s.size).size ≤ 1073741824 := by rw [ByteArray.size_extract]; omega
      have hO := ref02One (s.extract k s.size) wr hz
      rw [hx] at hO
      have hbd := fun r n => M2.one_bd (l := s.data.toList.drop k) (r := r) (n := n)
      rw [List.length_drop, show s.data.toList.length = s.size from rfl] at hbd
      generalize M2.one (s.data.toList.drop k) = R at *
      have hx1 : (s.extract k (k + 1)).data.toList = [s[k]] := by
        rw [Lib.extract_data, show s.data.toList.drop k = s[k] :: s.data.toList.drop (k + 1) from List.drop_eq_getElem_cons hlt]
        simp
      replace hO := Lib.hid hO
      replace hx1 := Lib.hid hx1
      clear hx hz
      cases R with
      | none =>
        have hacc2 : Hid (D = (acc ++ (s.extract k (k + 1)).data.toList) ++ M2.decode (s.data.toList.drop (k + 1))) := by
          show _ = _
          rw [hacc.out, hst, hx1.out]
          simp only [List.append_assoc, List.singleton_append]
          rfl
        have hal2 : (acc ++ (s.extract k (k + 1)).data.toList).length ≤ 4 * (k + 1) := by
          rw [hx1.out]; simp; omega
        clear hst hbd hacc hx1
        rw [ansI_none] at hO
        go_wp2_with fail
        refine hO.out.mono ?_
        rintro e w2 ⟨rfl, b2⟩
        go_wp2
        go_roundw
        case rel => exact ⟨k + 1, _, by omega, by go_num, str_val (cat_mk _ _), hal2, bt hbw b2, hacc2⟩
        case measure => simp [intOf]; omega
      | some p =>
        obtain ⟨r, n⟩ := p
        obtain ⟨hn2, hnl, hok, _, _⟩ := hbd r n rfl
        have hrr : 0 ≤ r ∧ r ≤ 1114111 := by unfold M1.okRune at hok; omega
        obtain ⟨hr0, hr1⟩ := hrr
        have hel := M2.enc_len_le r
        have htx : M1.text [r] = M1.enc r := by simp [M1.text]
        have hacc2 : Hid (D = (acc ++ M1.text [r]) ++ M2.decode (s.data.toList.drop (k + n))) := by
          show _ = _
          rw [hacc.out, hst, htx, List.append_assoc]
        have hal2 : (acc ++ M1.text [r]).length ≤ 4 * (k + n) := by
          rw [List.length_append, htx]; omega
        have htl : (M1.text [r]).length ≤ 4 := by rw [htx]; exact hel.1
        clear hst hbd hacc hx1 hok htx
        rw [ansI_some] at hO
        have hn0 : ((n : Int) == 0) = false := beq_eq_false_iff_ne.2 (by omega)
        go_wp2_with fail
        refine hO.out.mono ?_
        rintro e w2 ⟨rfl, b2⟩
        go_wp2_with fail
        refine (ref01Text _ [r] _ (hfr.out r w2) (by intro x hx; simp at hx; omega) (by simp)).mono ?_
        rintro e w3 ⟨rfl, b3⟩
        have B3 := bt (bt hbw b2) (bt (hbl.out w2 _) b3)
        go_wp2
        go_roundw
        case rel => exact ⟨k + n, _, by omega, by go_num, str_val (cat_mk _ _), hal2, B3, hacc2⟩
        case measure => simp [intOf]; omega
    · obtain rfl : k = s.size := by omega
      have h := hacc.out
      rw [show s.data.toList.drop s.size = [] from List.drop_of_length_le (Nat.le_refl _), M2.decode_nil, List.append_nil] at h
      replace h := Lib.hid h
      clear hacc hlt
      go_wp2
      go_ret
      rw [h.out]
      exact ⟨rfl, hbw⟩

set_option maxHeartbeats 4000000 in
set_option maxRecDepth 100000 in
theorem ref02Escape (s : ByteArray) (v : Bool) (w : World) (hs : s.size ≤ 1073741824) :
    Calls Try.prog 19 #[.string s, .bool v] w fun e w' => e = .returned (.string ⟨(M2.escape v s.data.toList).toArray⟩) ∧ w' = w := by
  go_enter Try.func19, Try.ntmps19
  go_wp2
  go_loop [5, 6] (fun o i => ∃ k : Nat, k ≤ s.size ∧ i = .int .i64 k ∧ o = .string ⟨(M2.escape v (s.data.toList.take k)).toArray⟩) (fun _ i => s.size - (intOf i).toNat)
  case atStart => exact ⟨0, by omega, rfl, rfl⟩
  case round =>
    obtain ⟨k, hk, rfl, rfl⟩ := hrel
    by_cases hlt : k < s.size
    · have htk : M2.escape v (s.data.toList.take (k + 1)) = M2.escape v (s.data.toList.take k) ++ M2.esc v s[k] := by
        rw [show s.data.toList.take (k + 1) = s.data.toList.take k ++ [s[k]] from List.take_succ_eq_append_getElem (l := s.data.toList) hlt, M2.escape_append]
        simp [M2.escape]
      have hx1 : (s.extract k (k + 1)).data.toList = [s[k]] := by
        rw [Lib.extract_data, show s.data.toList.drop k = s[k] :: s.data.toList.drop (k + 1) from List.drop_eq_getElem_cons hlt]
        simp
      have hlen := M2.escape_len v (s.data.toList.take k)
      have hle1 : (s.data.toList.take k).length ≤ k := List.length_take_le _ _
      have fin : ∀ (add : ByteArray), M2.esc v s[k] = add.data.toList → (⟨(M2.escape v (s.data.toList.take k)).toArray⟩ : ByteArray) ++ add = ⟨(M2.escape v (s.data.toList.take (k + 1))).toArray⟩ := by
        intro add h
        rw [htk, h, cat_mk]
      replace fin := Lib.hid fin
      clear htk
      by_cases h38 : s[k] = 38
      · have F := Lib.hid (fin.out ⟨#[38, 97, 109, 112, 59]⟩ (by rw [h38]; rfl))
        clear fin hx1
        go_wp2
        go_round
        case rel => exact ⟨k + 1, by omega, by go_num, str_val F.out⟩
        case measure => simp [intOf]; omega
      have h38b : ((s[k].toNat : Int) == 38) = false := ne_byte (d := 38) h38
      by_cases h60 : s[k] = 60
      · have F := Lib.hid (fin.out ⟨#[38, 108, 116, 59]⟩ (by rw [h60]; rfl))
        clear fin hx1 h38
        go_wp2
        go_round
        case rel => exact ⟨k + 1, by omega, by go_num, str_val F.out⟩
        case measure => simp [intOf]; omega
      have h60b : ((s[k].toNat : Int) == 60) = false := ne_byte (d := 60) h60
      by_cases h62 : s[k] = 62
      · have F := Lib.hid (fin.out ⟨#[38, 103, 116, 59]⟩ (by rw [h62]; rfl))
        clear fin hx1 h38 h60
        go_wp2
        go_round
        case rel => exact ⟨k + 1, by omega, by go_num, str_val F.out⟩
        case measure => simp [intOf]; omega
      have h62b : ((s[k].toNat : Int) == 62) = false := ne_byte (d := 62) h62
      by_cases h34 : s[k] = 34
      · cases v
        · have F := Lib.hid (fin.out (s.extract k (k + 1)) (by rw [hx1, h34]; rfl))
          clear fin hx1 h38 h60 h62
          go_wp2
          go_round
          case rel => exact ⟨k + 1, by omega, by go_num, str_val F.out⟩
          case measure => simp [intOf]; omega
        · have F := Lib.hid (fin.out ⟨#[38, 113, 117, 111, 116, 59]⟩ (by rw [h34]; rfl))
          clear fin hx1 h38 h60 h62
          go_wp2
          go_round
          case rel => exact ⟨k + 1, by omega, by go_num, str_val F.out⟩
          case measure => simp [intOf]; omega
      have h34b : ((s[k].toNat : Int) == 34) = false := ne_byte (d := 34) h34
      have F := Lib.hid (fin.out (s.extract k (k + 1)) (by rw [hx1, M2.esc, if_neg h38, if_neg h60, if_neg h62, if_neg (fun e => h34 e.1)]))
      clear fin hx1 h38 h60 h62 h34
      go_wp2
      go_round
      case rel => exact ⟨k + 1, by omega, by go_num, str_val F.out⟩
      case measure => simp [intOf]; omega
    · obtain rfl : k = s.size := by omega
      have ht : s.data.toList.take s.size = s.data.toList := List.take_of_length_le (Nat.le_refl _)
      replace ht := Lib.hid ht
      clear hlt
      go_wp2
      go_ret
      rw [ht.out]
      exact ⟨rfl, rfl⟩
end Go.Proofs.Ytafeideihaojfaa
