/- The statements RefsPlain and RefsNumbers: their walks. -/
import Derived.Test.YtafeideihaojfaaLaw02
import Derived.Test.YtafeideihaojfaaMath2b
namespace Go.Proofs.Ytafeideihaojfaa
open Go.RowKit

/-- Has the text no &? -/
def no38 (l : List UInt8) : Bool := decide ((38 : UInt8) ∉ l)
theorem no38_snoc (l : List UInt8) (c : UInt8) : no38 (l ++ [c]) = (no38 l && decide (c ≠ 38)) := by
  rw [Bool.eq_iff_iff]
  simp [no38]
  intro _
  exact ⟨fun h e => h e.symm, fun h e => h e.symm⟩

set_option maxHeartbeats 4000000 in
set_option maxRecDepth 100000 in
theorem law02RefsPlain (s : ByteArray) (w : World) :
    Calls Try.prog 7 #[.string s] w fun e w' => e = .returned (.bool true) ∧ Below w.heap.size w w' := by
  go_enter Try.func7, Try.ntmps7
  go_wp2_with fail
  refine (law02Few s w).mono ?_
  rintro e w0 ⟨t, rfl, ht, rfl⟩
  go_wp2
  go_loop [3, 4] (fun p i => ∃ k : Nat, k ≤ t.size ∧ i = .int .i64 k ∧ p = .bool (no38 (t.data.toList.take k))) (fun _ i => t.size - (intOf i).toNat)
  case atStart => exact ⟨0, by omega, rfl, rfl⟩
  case round =>
    obtain ⟨k, hk, rfl, rfl⟩ := hrel
    by_cases hlt : k < t.size
    · have htk : no38 (t.data.toList.take (k + 1)) = (no38 (t.data.toList.take k) && decide (t[k] ≠ 38)) := by
        rw [show t.data.toList.take (k + 1) = t.data.toList.take k ++ [t[k]] from List.take_succ_eq_append_getElem (l := t.data.toList) hlt, no38_snoc]
      cases hq : no38 (t.data.toList.take k)
      · have hp : Hid (no38 (t.data.toList.take (k + 1)) = false) := by
          show _ = _
          rw [htk, hq]; rfl
        clear htk hq
        go_wp2
        go_round
        case rel => exact ⟨k + 1, by omega, by go_num, by rw [hp.out]⟩
        case measure => simp [intOf]; omega
      · by_cases h38 : t[k] = 38
        · have hp : Hid (no38 (t.data.toList.take (k + 1)) = false) := by
            show _ = _
            rw [htk, h38]; simp
          clear htk hq
          go_wp2
          go_round
          case rel => exact ⟨k + 1, by omega, by go_num, by rw [hp.out]⟩
          case measure => simp [intOf]; omega
        · have hp : Hid (no38 (t.data.toList.take (k + 1)) = true) := by
            show _ = _
            rw [htk, hq]; simpa using h38
          have hb : ((t[k].toNat : Int) != 38) = true := by
            have : ((t[k].toNat : Int) == 38) = false := ne_byte (d := 38) h38
            simpa [bne] using this
          clear htk hq h38
          go_wp2
          go_round
          case rel => exact ⟨k + 1, by omega, by go_num, by rw [hp.out]⟩
          case measure => simp [intOf]; omega
    · obtain rfl : k = t.size := by omega
      have hta : t.data.toList.take t.size = t.data.toList := List.take_of_length_le (Nat.le_refl _)
      rw [hta]
      clear hta hlt
      have hbare := M2.escape_bare t.data.toList
      have hel := M2.escape_len true t.data.toList
      have htl : t.data.toList.length = t.size := rfl
      have hD := fun w => refsDecode t w (by omega)
      go_wp2_with fail
      refine (refsEscape t true _ (by omega)).mono ?_
      rintro e w1 ⟨rfl, b1⟩
      obtain ⟨E, hE⟩ : ∃ E : ByteArray, (⟨(M2.escape true t.data.toList).toArray⟩ : ByteArray) = E := ⟨_, rfl⟩
      have hEl : E.data.toList = M2.escape true t.data.toList := by rw [← hE]
      have hEz : E.size ≤ 1200 := by
        rw [← hE]
        show (M2.escape true t.data.toList).length ≤ _
        omega
      rw [hE]
      rw [← hEl] at hbare
      replace hbare := Lib.hid hbare
      clear hE hEl hel htl
      have hDq : Hid (no38 t.data.toList = true → ∀ w, Calls Try.prog 16 #[.string t] w fun e w' => e = .returned (.string t) ∧ Below w.heap.size w w') := by
        intro hq w
        have := hD w
        rwa [M2.decode_self _ (of_decide_eq_true hq), str_back] at this
      clear hD
      go_wp2
      go_loop [6] (fun i => ∃ k : Nat, k ≤ E.size ∧ i = .int .i64 k) (fun i => E.size - (intOf i).toNat)
      case atStart => exact ⟨0, by omega, rfl⟩
      case round =>
        obtain ⟨k, hk, rfl⟩ := hrel
        by_cases hlt : k < E.size
        · have hb := hbare.out E[k] (List.mem_of_getElem? (own_get E k hlt))
          have e1 : ((E[k].toNat : Int) == 60) = false := ne_byte (d := 60) hb.1
          have e2 : ((E[k].toNat : Int) == 62) = false := ne_byte (d := 62) hb.2.1
          have e3 : ((E[k].toNat : Int) == 34) = false := ne_byte (d := 34) hb.2.2
          clear hb
          go_wp2
          go_round
          case rel => exact ⟨k + 1, by omega, by go_num⟩
          case measure => simp [intOf]; omega
        · have hL := Lib.hid (fun w => law02Lives w)
          cases hq : no38 t.data.toList
          · clear hDq
            go_wp2_with fail
            refine (hL.out _).mono ?_
            rintro e w3 ⟨rfl, b3⟩
            go_wp2
            go_ret
            exact ⟨rfl, bt b1 b3⟩
          · have hD := Lib.hid (hDq.out hq)
            clear hDq
            go_wp2_with fail
            refine (hD.out _).mono ?_
            rintro e w2 ⟨rfl, b2⟩
            go_wp2_with fail
            refine (hL.out _).mono ?_
            rintro e w3 ⟨rfl, b3⟩
            go_wp2
            go_ret
            exact ⟨rfl, bt (bt b1 b2) b3⟩

set_option maxHeartbeats 16000000 in
set_option maxRecDepth 100000 in
theorem law02RefsNumbers (n : Int) (w : World) (hn0 : -9223372036854775808 ≤ n) (hn1 : n ≤ 9223372036854775807) :
    Calls Try.prog 9 #[.int .i64 n] w fun e w' => e = .returned (.bool true) ∧ Below w.heap.size w w' := by
  by_cases hneg : n < 0
  · have h1 : 0 ≤ -(n + 1) := by omega
    have h2 : -(n + 1) ≤ 9223372036854775807 := by omega
    have hm : -(n + 1).tmod 1114112 = (-(n + 1)) % 1114112 := by rw [← Int.neg_tmod, Int.tmod_eq_emod_of_nonneg h1]
    replace hm := Lib.hid hm
    go_enter Try.func9, Try.ntmps9
    go_upto_region 4 with (fail)
    rw [hm.out]
    have m0 : 0 ≤ (-(n + 1)) % 1114112 := by omega
    have m1 : (-(n + 1)) % 1114112 < 1114112 := by omega
    clear hm
    generalize (-(n + 1)) % 1114112 = m at *
    by_cases c0 : m = 0
    · subst c0
      go_wp2_with fail
      refine (law02Lives _).mono ?_
      rintro e w5 ⟨rfl, b5⟩
      go_wp2
      go_ret
      exact ⟨rfl, b5⟩
    have c0b : (m == 0) = false := beq_eq_false_iff_ne.2 c0
    by_cases c13 : m = 13
    · subst c13
      go_wp2_with fail
      refine (law02Lives _).mono ?_
      rintro e w5 ⟨rfl, b5⟩
      go_wp2
      go_ret
      exact ⟨rfl, b5⟩
    have c13b : (m == 13) = false := beq_eq_false_iff_ne.2 c13
    have mpos : 0 < m := by omega
    by_cases c5 : 55296 ≤ m
    · by_cases c7 : m ≤ 57343
      · clear c0 c13
        go_wp2_with fail
        refine (law02Lives _).mono ?_
        rintro e w5 ⟨rfl, b5⟩
        go_wp2
        go_ret
        exact ⟨rfl, b5⟩
      · have c7b : decide (m ≤ 57343) = false := decide_eq_false c7
        have hchr : Hid (M2.chr m = m) := by
          show _ = _
          rw [M2.chr, if_neg (by omega)]
        clear c0 c13 c7
        have hcb := fun (wr : World) (c : UInt8) => conv_back (w := wr.alloc (.cells #[.int .u8 (c.toNat : Int)] 5)) (l := [c]) (Sl.fresh' wr 5 (u8s [c]) 1 rfl (by omega))
        have hbl := fun (wr : World) (o : Obj) => (Below.refl wr.heap.size wr).alloc (Nat.le_refl _) o
        replace hcb := Lib.hid hcb
        replace hbl := Lib.hid hbl
        go_wp2
        go_loopw [4, 5] (fun o j wr => ∃ (ds : List UInt8) (i : Int), o = .string ⟨ds.toArray⟩ ∧ j = .int .i64 i ∧ 0 ≤ i ∧ i ≤ m ∧ ds.length ≤ 7 ∧ Below w.heap.size w wr ∧ Hid (M2.Dg 10 m ds i)) (fun _ j _ => (intOf j).toNat)
        case atStart => exact ⟨[], m, rfl, rfl, by omega, by omega, by simp, Below.refl _ _, M2.Dg.start 10 m m0⟩
        case round =>
          obtain ⟨ds, i, rfl, rfl, hi0, him, hdl, hbw, hdg⟩ := hrel
          by_cases hi : 0 < i
          · have hl6 := hdg.out.len10 hi m1
            obtain ⟨c, hc⟩ : ∃ c : UInt8, (c.toNat : Int) = 48 + i % 10 := ⟨(48 + i % 10).toNat.toUInt8, by rw [M1.toNat_u8 _ (by omega)]; omega⟩
            have hds := hdg.out.step (by omega) (M2.ten_dig c _ hc (by omega) (by omega))
            have hcv := hcb.out wr c
            rw [hc] at hcv
            have hB := bt hbw (hbl.out wr (.cells #[.int .u8 (48 + i % 10)] 5))
            have hlt : i / 10 < i := by omega
            have hge : 0 ≤ i / 10 := by omega
            have e10 : i / (10 : Nat) = i / 10 := rfl
            rw [e10] at hds
            replace hds := Lib.hid hds
            have hcat : (⟨#[c]⟩ : ByteArray) ++ ⟨ds.toArray⟩ = ⟨(c :: ds).toArray⟩ := cat_mk [c] ⟨ds.toArray⟩
            replace hcat := Lib.hid hcat
            clear hc hdg e10
            go_wp2
            go_roundw
            case rel => exact ⟨c :: ds, i / 10, str_val hcat.out, rfl, hge, by omega, by simp; omega, hB, hds.out⟩
            case measure => simp [intOf]; omega
          · obtain rfl : i = 0 := by omega
            have hne := hdg.out.ne mpos
            have hdgs : Hid (∀ c ∈ ds, M2.isD 10 c = true) := hdg.out.1
            have hval := Lib.hid hdg.out.val0
            clear hdg hcb hi
            go_wp2
            go_loopw [7, 8, 9] (fun o j _ wr => ∃ (hs : List UInt8) (i : Int), o = .string ⟨hs.toArray⟩ ∧ j = .int .i64 i ∧ 0 ≤ i ∧ i ≤ m ∧ hs.length ≤ 6 ∧ Below w.heap.size w wr ∧ Hid (M2.Dg 16 m hs i)) (fun _ j _ _ => (intOf j).toNat)
            case atStart => exact ⟨[], m, rfl, rfl, by omega, by omega, by simp, hbw, M2.Dg.start 16 m m0⟩
            case round =>
              obtain ⟨hs, i, rfl, rfl, hi0, him, hhl, hbw2, hdg⟩ := hrel
              by_cases hi : 0 < i
              · have hl5 := hdg.out.len16 hi m1
                obtain ⟨d, hd⟩ : ∃ d : Nat, i % 16 = d := ⟨(i % 16).toNat, by omega⟩
                have hd16 : d < 16 := by omega
                have hds := hdg.out.step (by omega) (c := M2.hexL.getD d 0) ((M2.hex_dig d hd16).trans hd.symm)
                have hex : ((⟨M2.hexL.toArray⟩ : ByteArray).extract d (d + 1)).data.toList = [M2.hexL.getD d 0] := by
                  rw [Lib.extract_data]
                  show (M2.hexL.drop d).take (d + 1 - d) = _
                  rw [show d + 1 - d = 1 by omega]
                  exact M2.hex_cut d hd16
                have hlt : i / 16 < i := by omega
                have hge : 0 ≤ i / 16 := by omega
                have e16 : i / (16 : Nat) = i / 16 := rfl
                rw [e16] at hds
                replace hds := Lib.hid hds
                have hcat : (⟨M2.hexL.toArray⟩ : ByteArray).extract d (d + 1) ++ ⟨hs.toArray⟩ = ⟨(M2.hexL.getD d 0 :: hs).toArray⟩ := by
                  apply ByteArray.ext
                  rw [ByteArray.data_append]
                  apply Array.toList_inj.1
                  rw [Array.toList_append, hex]
                  simp
                replace hcat := Lib.hid hcat
                clear hex hdg e16
                go_wp2
                go_roundw
                case rel => exact ⟨M2.hexL.getD d 0 :: hs, i / 16, str_val hcat.out, rfl, hge, by omega, by simp; omega, hbw2, hds.out⟩
                case measure => simp [intOf]; omega
              · obtain rfl : i = 0 := by omega
                have hne2 := hdg.out.ne mpos
                have hdgs2 := hdg.out.1
                have hval2 := hdg.out.val0
                have o1 := M2.one_tens ds m hdgs.out hne hdl (by rw [hval.out]; exact hchr.out)
                have o2 := M2.one_hex hs m hdgs2 hne2 hhl (by rw [hval2]; exact hchr.out)
                have z1 : ((⟨#[38, 35]⟩ : ByteArray) ++ ⟨ds.toArray⟩ ++ ⟨#[59, 120]⟩).size ≤ 100 := by
                  rw [ByteArray.size_append, ByteArray.size_append]
                  show 2 + ds.length + 2 ≤ _
                  omega
                have z2 : ((⟨#[38, 35, 120]⟩ : ByteArray) ++ ⟨hs.toArray⟩ ++ ⟨#[59, 120]⟩).size ≤ 100 := by
                  rw [ByteArray.size_append, ByteArray.size_append]
                  show 3 + hs.length + 2 ≤ _
                  omega
                have O1 := fun w => refsOne ((⟨#[38, 35]⟩ : ByteArray) ++ ⟨ds.toArray⟩ ++ ⟨#[59, 120]⟩) w (by omega)
                have O2 := fun w => refsOne ((⟨#[38, 35, 120]⟩ : ByteArray) ++ ⟨hs.toArray⟩ ++ ⟨#[59, 120]⟩) w (by omega)
                rw [show ((⟨#[38, 35]⟩ : ByteArray) ++ ⟨ds.toArray⟩ ++ ⟨#[59, 120]⟩).data.toList = 38 :: 35 :: (ds ++ [59, 120]) by simp, o1, ans_some] at O1
                rw [show ((⟨#[38, 35, 120]⟩ : ByteArray) ++ ⟨hs.toArray⟩ ++ ⟨#[59, 120]⟩).data.toList = 38 :: 35 :: 120 :: (hs ++ [59, 120]) by simp, o2, ans_some] at O2
                replace O1 := Lib.hid O1
                replace O2 := Lib.hid O2
                clear hdgs hdgs2 hval hval2 o1 o2 hdg hi
                go_wp2_with fail
                refine (O1.out _).mono ?_
                rintro e w3 ⟨rfl, b3⟩
                go_wp2_with fail
                refine (O2.out _).mono ?_
                rintro e w4 ⟨rfl, b4⟩
                go_wp2_with fail
                refine (law02Lives _).mono ?_
                rintro e w5 ⟨rfl, b5⟩
                go_wp2
                go_ret
                exact ⟨rfl, bt (bt (bt hbw2 b3) b4) b5⟩
    · have c5b : decide (55296 ≤ m) = false := decide_eq_false c5
      have hchr : Hid (M2.chr m = m) := by
        show _ = _
        rw [M2.chr, if_neg (by omega)]
      clear c0 c13 c5
      have hcb := fun (wr : World) (c : UInt8) => conv_back (w := wr.alloc (.cells #[.int .u8 (c.toNat : Int)] 5)) (l := [c]) (Sl.fresh' wr 5 (u8s [c]) 1 rfl (by omega))
      have hbl := fun (wr : World) (o : Obj) => (Below.refl wr.heap.size wr).alloc (Nat.le_refl _) o
      replace hcb := Lib.hid hcb
      replace hbl := Lib.hid hbl
      go_wp2
      go_loopw [4, 5] (fun o j wr => ∃ (ds : List UInt8) (i : Int), o = .string ⟨ds.toArray⟩ ∧ j = .int .i64 i ∧ 0 ≤ i ∧ i ≤ m ∧ ds.length ≤ 7 ∧ Below w.heap.size w wr ∧ Hid (M2.Dg 10 m ds i)) (fun _ j _ => (intOf j).toNat)
      case atStart => exact ⟨[], m, rfl, rfl, by omega, by omega, by simp, Below.refl _ _, M2.Dg.start 10 m m0⟩
      case round =>
        obtain ⟨ds, i, rfl, rfl, hi0, him, hdl, hbw, hdg⟩ := hrel
        by_cases hi : 0 < i
        · have hl6 := hdg.out.len10 hi m1
          obtain ⟨c, hc⟩ : ∃ c : UInt8, (c.toNat : Int) = 48 + i % 10 := ⟨(48 + i % 10).toNat.toUInt8, by rw [M1.toNat_u8 _ (by omega)]; omega⟩
          have hds := hdg.out.step (by omega) (M2.ten_dig c _ hc (by omega) (by omega))
          have hcv := hcb.out wr c
          rw [hc] at hcv
          have hB := bt hbw (hbl.out wr (.cells #[.int .u8 (48 + i % 10)] 5))
          have hlt : i / 10 < i := by omega
          have hge : 0 ≤ i / 10 := by omega
          have e10 : i / (10 : Nat) = i / 10 := rfl
          rw [e10] at hds
          replace hds := Lib.hid hds
          have hcat : (⟨#[c]⟩ : ByteArray) ++ ⟨ds.toArray⟩ = ⟨(c :: ds).toArray⟩ := cat_mk [c] ⟨ds.toArray⟩
          replace hcat := Lib.hid hcat
          clear hc hdg e10
          go_wp2
          go_roundw
          case rel => exact ⟨c :: ds, i / 10, str_val hcat.out, rfl, hge, by omega, by simp; omega, hB, hds.out⟩
          case measure => simp [intOf]; omega
        · obtain rfl : i = 0 := by omega
          have hne := hdg.out.ne mpos
          have hdgs : Hid (∀ c ∈ ds, M2.isD 10 c = true) := hdg.out.1
          have hval := Lib.hid hdg.out.val0
          clear hdg hcb hi
          go_wp2
          go_loopw [7, 8, 9] (fun o j _ wr => ∃ (hs : List UInt8) (i : Int), o = .string ⟨hs.toArray⟩ ∧ j = .int .i64 i ∧ 0 ≤ i ∧ i ≤ m ∧ hs.length ≤ 6 ∧ Below w.heap.size w wr ∧ Hid (M2.Dg 16 m hs i)) (fun _ j _ _ => (intOf j).toNat)
          case atStart => exact ⟨[], m, rfl, rfl, by omega, by omega, by simp, hbw, M2.Dg.start 16 m m0⟩
          case round =>
            obtain ⟨hs, i, rfl, rfl, hi0, him, hhl, hbw2, hdg⟩ := hrel
            by_cases hi : 0 < i
            · have hl5 := hdg.out.len16 hi m1
              obtain ⟨d, hd⟩ : ∃ d : Nat, i % 16 = d := ⟨(i % 16).toNat, by omega⟩
              have hd16 : d < 16 := by omega
              have hds := hdg.out.step (by omega) (c := M2.hexL.getD d 0) ((M2.hex_dig d hd16).trans hd.symm)
              have hex : ((⟨M2.hexL.toArray⟩ : ByteArray).extract d (d + 1)).data.toList = [M2.hexL.getD d 0] := by
                rw [Lib.extract_data]
                show (M2.hexL.drop d).take (d + 1 - d) = _
                rw [show d + 1 - d = 1 by omega]
                exact M2.hex_cut d hd16
              have hlt : i / 16 < i := by omega
              have hge : 0 ≤ i / 16 := by omega
              have e16 : i / (16 : Nat) = i / 16 := rfl
              rw [e16] at hds
              replace hds := Lib.hid hds
              have hcat : (⟨M2.hexL.toArray⟩ : ByteArray).extract d (d + 1) ++ ⟨hs.toArray⟩ = ⟨(M2.hexL.getD d 0 :: hs).toArray⟩ := by
                apply ByteArray.ext
                rw [ByteArray.data_append]
                apply Array.toList_inj.1
                rw [Array.toList_append, hex]
                simp
              replace hcat := Lib.hid hcat
              clear hex hdg e16
              go_wp2
              go_roundw
              case rel => exact ⟨M2.hexL.getD d 0 :: hs, i / 16, str_val hcat.out, rfl, hge, by omega, by simp; omega, hbw2, hds.out⟩
              case measure => simp [intOf]; omega
            · obtain rfl : i = 0 := by omega
              have hne2 := hdg.out.ne mpos
              have hdgs2 := hdg.out.1
              have hval2 := hdg.out.val0
              have o1 := M2.one_tens ds m hdgs.out hne hdl (by rw [hval.out]; exact hchr.out)
              have o2 := M2.one_hex hs m hdgs2 hne2 hhl (by rw [hval2]; exact hchr.out)
              have z1 : ((⟨#[38, 35]⟩ : ByteArray) ++ ⟨ds.toArray⟩ ++ ⟨#[59, 120]⟩).size ≤ 100 := by
                rw [ByteArray.size_append, ByteArray.size_append]
                show 2 + ds.length + 2 ≤ _
                omega
              have z2 : ((⟨#[38, 35, 120]⟩ : ByteArray) ++ ⟨hs.toArray⟩ ++ ⟨#[59, 120]⟩).size ≤ 100 := by
                rw [ByteArray.size_append, ByteArray.size_append]
                show 3 + hs.length + 2 ≤ _
                omega
              have O1 := fun w => refsOne ((⟨#[38, 35]⟩ : ByteArray) ++ ⟨ds.toArray⟩ ++ ⟨#[59, 120]⟩) w (by omega)
              have O2 := fun w => refsOne ((⟨#[38, 35, 120]⟩ : ByteArray) ++ ⟨hs.toArray⟩ ++ ⟨#[59, 120]⟩) w (by omega)
              rw [show ((⟨#[38, 35]⟩ : ByteArray) ++ ⟨ds.toArray⟩ ++ ⟨#[59, 120]⟩).data.toList = 38 :: 35 :: (ds ++ [59, 120]) by simp, o1, ans_some] at O1
              rw [show ((⟨#[38, 35, 120]⟩ : ByteArray) ++ ⟨hs.toArray⟩ ++ ⟨#[59, 120]⟩).data.toList = 38 :: 35 :: 120 :: (hs ++ [59, 120]) by simp, o2, ans_some] at O2
              replace O1 := Lib.hid O1
              replace O2 := Lib.hid O2
              clear hdgs hdgs2 hval hval2 o1 o2 hdg hi
              go_wp2_with fail
              refine (O1.out _).mono ?_
              rintro e w3 ⟨rfl, b3⟩
              go_wp2_with fail
              refine (O2.out _).mono ?_
              rintro e w4 ⟨rfl, b4⟩
              go_wp2_with fail
              refine (law02Lives _).mono ?_
              rintro e w5 ⟨rfl, b5⟩
              go_wp2
              go_ret
              exact ⟨rfl, bt (bt (bt hbw2 b3) b4) b5⟩
  · have h1 : 0 ≤ n := by omega
    have hm0 : 0 ≤ n % 1114112 := by omega
    have hm1 : n % 1114112 < 1114112 := by omega
    clear hneg
    go_enter Try.func9, Try.ntmps9
    go_upto_region 4 with (fail)
    have m0 : 0 ≤ n % 1114112 := by omega
    have m1 : n % 1114112 < 1114112 := by omega
    clear hm0 hm1
    generalize n % 1114112 = m at *
    by_cases c0 : m = 0
    · subst c0
      go_wp2_with fail
      refine (law02Lives _).mono ?_
      rintro e w5 ⟨rfl, b5⟩
      go_wp2
      go_ret
      exact ⟨rfl, b5⟩
    have c0b : (m == 0) = false := beq_eq_false_iff_ne.2 c0
    by_cases c13 : m = 13
    · subst c13
      go_wp2_with fail
      refine (law02Lives _).mono ?_
      rintro e w5 ⟨rfl, b5⟩
      go_wp2
      go_ret
      exact ⟨rfl, b5⟩
    have c13b : (m == 13) = false := beq_eq_false_iff_ne.2 c13
    have mpos : 0 < m := by omega
    by_cases c5 : 55296 ≤ m
    · by_cases c7 : m ≤ 57343
      · clear c0 c13
        go_wp2_with fail
        refine (law02Lives _).mono ?_
        rintro e w5 ⟨rfl, b5⟩
        go_wp2
        go_ret
        exact ⟨rfl, b5⟩
      · have c7b : decide (m ≤ 57343) = false := decide_eq_false c7
        have hchr : Hid (M2.chr m = m) := by
          show _ = _
          rw [M2.chr, if_neg (by omega)]
        clear c0 c13 c7
        have hcb := fun (wr : World) (c : UInt8) => conv_back (w := wr.alloc (.cells #[.int .u8 (c.toNat : Int)] 5)) (l := [c]) (Sl.fresh' wr 5 (u8s [c]) 1 rfl (by omega))
        have hbl := fun (wr : World) (o : Obj) => (Below.refl wr.heap.size wr).alloc (Nat.le_refl _) o
        replace hcb := Lib.hid hcb
        replace hbl := Lib.hid hbl
        go_wp2
        go_loopw [4, 5] (fun o j wr => ∃ (ds : List UInt8) (i : Int), o = .string ⟨ds.toArray⟩ ∧ j = .int .i64 i ∧ 0 ≤ i ∧ i ≤ m ∧ ds.length ≤ 7 ∧ Below w.heap.size w wr ∧ Hid (M2.Dg 10 m ds i)) (fun _ j _ => (intOf j).toNat)
        case atStart => exact ⟨[], m, rfl, rfl, by omega, by omega, by simp, Below.refl _ _, M2.Dg.start 10 m m0⟩
        case round =>
          obtain ⟨ds, i, rfl, rfl, hi0, him, hdl, hbw, hdg⟩ := hrel
          by_cases hi : 0 < i
          · have hl6 := hdg.out.len10 hi m1
            obtain ⟨c, hc⟩ : ∃ c : UInt8, (c.toNat : Int) = 48 + i % 10 := ⟨(48 + i % 10).toNat.toUInt8, by rw [M1.toNat_u8 _ (by omega)]; omega⟩
            have hds := hdg.out.step (by omega) (M2.ten_dig c _ hc (by omega) (by omega))
            have hcv := hcb.out wr c
            rw [hc] at hcv
            have hB := bt hbw (hbl.out wr (.cells #[.int .u8 (48 + i % 10)] 5))
            have hlt : i / 10 < i := by omega
            have hge : 0 ≤ i / 10 := by omega
            have e10 : i / (10 : Nat) = i / 10 := rfl
            rw [e10] at hds
            replace hds := Lib.hid hds
            have hcat : (⟨#[c]⟩ : ByteArray) ++ ⟨ds.toArray⟩ = ⟨(c :: ds).toArray⟩ := cat_mk [c] ⟨ds.toArray⟩
            replace hcat := Lib.hid hcat
            clear hc hdg e10
            go_wp2
            go_roundw
            case rel => exact ⟨c :: ds, i / 10, str_val hcat.out, rfl, hge, by omega, by simp; omega, hB, hds.out⟩
            case measure => simp [intOf]; omega
          · obtain rfl : i = 0 := by omega
            have hne := hdg.out.ne mpos
            have hdgs : Hid (∀ c ∈ ds, M2.isD 10 c = true) := hdg.out.1
            have hval := Lib.hid hdg.out.val0
            clear hdg hcb hi
            go_wp2
            go_loopw [7, 8, 9] (fun o j _ wr => ∃ (hs : List UInt8) (i : Int), o = .string ⟨hs.toArray⟩ ∧ j = .int .i64 i ∧ 0 ≤ i ∧ i ≤ m ∧ hs.length ≤ 6 ∧ Below w.heap.size w wr ∧ Hid (M2.Dg 16 m hs i)) (fun _ j _ _ => (intOf j).toNat)
            case atStart => exact ⟨[], m, rfl, rfl, by omega, by omega, by simp, hbw, M2.Dg.start 16 m m0⟩
            case round =>
              obtain ⟨hs, i, rfl, rfl, hi0, him, hhl, hbw2, hdg⟩ := hrel
              by_cases hi : 0 < i
              · have hl5 := hdg.out.len16 hi m1
                obtain ⟨d, hd⟩ : ∃ d : Nat, i % 16 = d := ⟨(i % 16).toNat, by omega⟩
                have hd16 : d < 16 := by omega
                have hds := hdg.out.step (by omega) (c := M2.hexL.getD d 0) ((M2.hex_dig d hd16).trans hd.symm)
                have hex : ((⟨M2.hexL.toArray⟩ : ByteArray).extract d (d + 1)).data.toList = [M2.hexL.getD d 0] := by
                  rw [Lib.extract_data]
                  show (M2.hexL.drop d).take (d + 1 - d) = _
                  rw [show d + 1 - d = 1 by omega]
                  exact M2.hex_cut d hd16
                have hlt : i / 16 < i := by omega
                have hge : 0 ≤ i / 16 := by omega
                have e16 : i / (16 : Nat) = i / 16 := rfl
                rw [e16] at hds
                replace hds := Lib.hid hds
                have hcat : (⟨M2.hexL.toArray⟩ : ByteArray).extract d (d + 1) ++ ⟨hs.toArray⟩ = ⟨(M2.hexL.getD d 0 :: hs).toArray⟩ := by
                  apply ByteArray.ext
                  rw [ByteArray.data_append]
                  apply Array.toList_inj.1
                  rw [Array.toList_append, hex]
                  simp
                replace hcat := Lib.hid hcat
                clear hex hdg e16
                go_wp2
                go_roundw
                case rel => exact ⟨M2.hexL.getD d 0 :: hs, i / 16, str_val hcat.out, rfl, hge, by omega, by simp; omega, hbw2, hds.out⟩
                case measure => simp [intOf]; omega
              · obtain rfl : i = 0 := by omega
                have hne2 := hdg.out.ne mpos
                have hdgs2 := hdg.out.1
                have hval2 := hdg.out.val0
                have o1 := M2.one_tens ds m hdgs.out hne hdl (by rw [hval.out]; exact hchr.out)
                have o2 := M2.one_hex hs m hdgs2 hne2 hhl (by rw [hval2]; exact hchr.out)
                have z1 : ((⟨#[38, 35]⟩ : ByteArray) ++ ⟨ds.toArray⟩ ++ ⟨#[59, 120]⟩).size ≤ 100 := by
                  rw [ByteArray.size_append, ByteArray.size_append]
                  show 2 + ds.length + 2 ≤ _
                  omega
                have z2 : ((⟨#[38, 35, 120]⟩ : ByteArray) ++ ⟨hs.toArray⟩ ++ ⟨#[59, 120]⟩).size ≤ 100 := by
                  rw [ByteArray.size_append, ByteArray.size_append]
                  show 3 + hs.length + 2 ≤ _
                  omega
                have O1 := fun w => refsOne ((⟨#[38, 35]⟩ : ByteArray) ++ ⟨ds.toArray⟩ ++ ⟨#[59, 120]⟩) w (by omega)
                have O2 := fun w => refsOne ((⟨#[38, 35, 120]⟩ : ByteArray) ++ ⟨hs.toArray⟩ ++ ⟨#[59, 120]⟩) w (by omega)
                rw [show ((⟨#[38, 35]⟩ : ByteArray) ++ ⟨ds.toArray⟩ ++ ⟨#[59, 120]⟩).data.toList = 38 :: 35 :: (ds ++ [59, 120]) by simp, o1, ans_some] at O1
                rw [show ((⟨#[38, 35, 120]⟩ : ByteArray) ++ ⟨hs.toArray⟩ ++ ⟨#[59, 120]⟩).data.toList = 38 :: 35 :: 120 :: (hs ++ [59, 120]) by simp, o2, ans_some] at O2
                replace O1 := Lib.hid O1
                replace O2 := Lib.hid O2
                clear hdgs hdgs2 hval hval2 o1 o2 hdg hi
                go_wp2_with fail
                refine (O1.out _).mono ?_
                rintro e w3 ⟨rfl, b3⟩
                go_wp2_with fail
                refine (O2.out _).mono ?_
                rintro e w4 ⟨rfl, b4⟩
                go_wp2_with fail
                refine (law02Lives _).mono ?_
                rintro e w5 ⟨rfl, b5⟩
                go_wp2
                go_ret
                exact ⟨rfl, bt (bt (bt hbw2 b3) b4) b5⟩
    · have c5b : decide (55296 ≤ m) = false := decide_eq_false c5
      have hchr : Hid (M2.chr m = m) := by
        show _ = _
        rw [M2.chr, if_neg (by omega)]
      clear c0 c13 c5
      have hcb := fun (wr : World) (c : UInt8) => conv_back (w := wr.alloc (.cells #[.int .u8 (c.toNat : Int)] 5)) (l := [c]) (Sl.fresh' wr 5 (u8s [c]) 1 rfl (by omega))
      have hbl := fun (wr : World) (o : Obj) => (Below.refl wr.heap.size wr).alloc (Nat.le_refl _) o
      replace hcb := Lib.hid hcb
      replace hbl := Lib.hid hbl
      go_wp2
      go_loopw [4, 5] (fun o j wr => ∃ (ds : List UInt8) (i : Int), o = .string ⟨ds.toArray⟩ ∧ j = .int .i64 i ∧ 0 ≤ i ∧ i ≤ m ∧ ds.length ≤ 7 ∧ Below w.heap.size w wr ∧ Hid (M2.Dg 10 m ds i)) (fun _ j _ => (intOf j).toNat)
      case atStart => exact ⟨[], m, rfl, rfl, by omega, by omega, by simp, Below.refl _ _, M2.Dg.start 10 m m0⟩
      case round =>
        obtain ⟨ds, i, rfl, rfl, hi0, him, hdl, hbw, hdg⟩ := hrel
        by_cases hi : 0 < i
        · have hl6 := hdg.out.len10 hi m1
          obtain ⟨c, hc⟩ : ∃ c : UInt8, (c.toNat : Int) = 48 + i % 10 := ⟨(48 + i % 10).toNat.toUInt8, by rw [M1.toNat_u8 _ (by omega)]; omega⟩
          have hds := hdg.out.step (by omega) (M2.ten_dig c _ hc (by omega) (by omega))
          have hcv := hcb.out wr c
          rw [hc] at hcv
          have hB := bt hbw (hbl.out wr (.cells #[.int .u8 (48 + i % 10)] 5))
          have hlt : i / 10 < i := by omega
          have hge : 0 ≤ i / 10 := by omega
          have e10 : i / (10 : Nat) = i / 10 := rfl
          rw [e10] at hds
          replace hds := Lib.hid hds
          have hcat : (⟨#[c]⟩ : ByteArray) ++ ⟨ds.toArray⟩ = ⟨(c :: ds).toArray⟩ := cat_mk [c] ⟨ds.toArray⟩
          replace hcat := Lib.hid hcat
          clear hc hdg e10
          go_wp2
          go_roundw
          case rel => exact ⟨c :: ds, i / 10, str_val hcat.out, rfl, hge, by omega, by simp; omega, hB, hds.out⟩
          case measure => simp [intOf]; omega
        · obtain rfl : i = 0 := by omega
          have hne := hdg.out.ne mpos
          have hdgs : Hid (∀ c ∈ ds, M2.isD 10 c = true) := hdg.out.1
          have hval := Lib.hid hdg.out.val0
          clear hdg hcb hi
          go_wp2
          go_loopw [7, 8, 9] (fun o j _ wr => ∃ (hs : List UInt8) (i : Int), o = .string ⟨hs.toArray⟩ ∧ j = .int .i64 i ∧ 0 ≤ i ∧ i ≤ m ∧ hs.length ≤ 6 ∧ Below w.heap.size w wr ∧ Hid (M2.Dg 16 m hs i)) (fun _ j _ _ => (intOf j).toNat)
          case atStart => exact ⟨[], m, rfl, rfl, by omega, by omega, by simp, hbw, M2.Dg.start 16 m m0⟩
          case round =>
            obtain ⟨hs, i, rfl, rfl, hi0, him, hhl, hbw2, hdg⟩ := hrel
            by_cases hi : 0 < i
            · have hl5 := hdg.out.len16 hi m1
              obtain ⟨d, hd⟩ : ∃ d : Nat, i % 16 = d := ⟨(i % 16).toNat, by omega⟩
              have hd16 : d < 16 := by omega
              have hds := hdg.out.step (by omega) (c := M2.hexL.getD d 0) ((M2.hex_dig d hd16).trans hd.symm)
              have hex : ((⟨M2.hexL.toArray⟩ : ByteArray).extract d (d + 1)).data.toList = [M2.hexL.getD d 0] := by
                rw [Lib.extract_data]
                show (M2.hexL.drop d).take (d + 1 - d) = _
                rw [show d + 1 - d = 1 by omega]
                exact M2.hex_cut d hd16
              have hlt : i / 16 < i := by omega
              have hge : 0 ≤ i / 16 := by omega
              have e16 : i / (16 : Nat) = i / 16 := rfl
              rw [e16] at hds
              replace hds := Lib.hid hds
              have hcat : (⟨M2.hexL.toArray⟩ : ByteArray).extract d (d + 1) ++ ⟨hs.toArray⟩ = ⟨(M2.hexL.getD d 0 :: hs).toArray⟩ := by
                apply ByteArray.ext
                rw [ByteArray.data_append]
                apply Array.toList_inj.1
                rw [Array.toList_append, hex]
                simp
              replace hcat := Lib.hid hcat
              clear hex hdg e16
              go_wp2
              go_roundw
              case rel => exact ⟨M2.hexL.getD d 0 :: hs, i / 16, str_val hcat.out, rfl, hge, by omega, by simp; omega, hbw2, hds.out⟩
              case measure => simp [intOf]; omega
            · obtain rfl : i = 0 := by omega
              have hne2 := hdg.out.ne mpos
              have hdgs2 := hdg.out.1
              have hval2 := hdg.out.val0
              have o1 := M2.one_tens ds m hdgs.out hne hdl (by rw [hval.out]; exact hchr.out)
              have o2 := M2.one_hex hs m hdgs2 hne2 hhl (by rw [hval2]; exact hchr.out)
              have z1 : ((⟨#[38, 35]⟩ : ByteArray) ++ ⟨ds.toArray⟩ ++ ⟨#[59, 120]⟩).size ≤ 100 := by
                rw [ByteArray.size_append, ByteArray.size_append]
                show 2 + ds.length + 2 ≤ _
                omega
              have z2 : ((⟨#[38, 35, 120]⟩ : ByteArray) ++ ⟨hs.toArray⟩ ++ ⟨#[59, 120]⟩).size ≤ 100 := by
                rw [ByteArray.size_append, ByteArray.size_append]
                show 3 + hs.length + 2 ≤ _
                omega
              have O1 := fun w => refsOne ((⟨#[38, 35]⟩ : ByteArray) ++ ⟨ds.toArray⟩ ++ ⟨#[59, 120]⟩) w (by omega)
              have O2 := fun w => refsOne ((⟨#[38, 35, 120]⟩ : ByteArray) ++ ⟨hs.toArray⟩ ++ ⟨#[59, 120]⟩) w (by omega)
              rw [show ((⟨#[38, 35]⟩ : ByteArray) ++ ⟨ds.toArray⟩ ++ ⟨#[59, 120]⟩).data.toList = 38 :: 35 :: (ds ++ [59, 120]) by simp, o1, ans_some] at O1
              rw [show ((⟨#[38, 35, 120]⟩ : ByteArray) ++ ⟨hs.toArray⟩ ++ ⟨#[59, 120]⟩).data.toList = 38 :: 35 :: 120 :: (hs ++ [59, 120]) by simp, o2, ans_some] at O2
              replace O1 := Lib.hid O1
              replace O2 := Lib.hid O2
              clear hdgs hdgs2 hval hval2 o1 o2 hdg hi
              go_wp2_with fail
              refine (O1.out _).mono ?_
              rintro e w3 ⟨rfl, b3⟩
              go_wp2_with fail
              refine (O2.out _).mono ?_
              rintro e w4 ⟨rfl, b4⟩
              go_wp2_with fail
              refine (law02Lives _).mono ?_
              rintro e w5 ⟨rfl, b5⟩
              go_wp2
              go_ret
              exact ⟨rfl, bt (bt (bt hbw2 b3) b4) b5⟩
end Go.Proofs.Ytafeideihaojfaa
