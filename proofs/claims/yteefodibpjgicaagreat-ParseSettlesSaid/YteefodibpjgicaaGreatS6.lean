/- Texts joined: Ref06, Ref07, Sub, Ref07b, Bld5, Bld6, RegC. -/
import Derived.Test.YteefodibpjgicaaGreatS1
import Derived.Test.YteefodibpjgicaaGreatS2
import Derived.Test.YteefodibpjgicaaGreatS3
import Derived.Test.YteefodibpjgicaaGreatS4
import Derived.Test.YteefodibpjgicaaGreatS5
namespace Go.Proofs.YteefodibpjgicaaGreat
open Go.RowKit
theorem beq_flip (a b : List UInt8) : (a == b) = (b == a) := by
  rw [Bool.eq_iff_iff]; simp only [beq_iff_eq]; exact eq_comm
set_option maxHeartbeats 4000000 in
theorem ref06Closes (o b : ByteArray) (w : World) : Calls Tryz.prog 80 #[.string o, .string b] w fun e w' => e = .returned (.bool (M6.closesB o.data.toList b.data.toList)) ∧ Below w.heap.size w w' := by
  rw [← hasT_closed]
  have hl8 : (closedT o.data.toList).length ≤ 11 := by
    unfold closedT
    repeat' split
    all_goals decide
  obtain ⟨wo, rfl⟩ : ∃ wo : World, wo = w := ⟨_, rfl⟩
  by_cases h0 : o.data.toList = [112]
  · have e0 : (o.toList == [112]) = true := by rw [Lib.toList_data, h0]; rfl
    have hr : Txs (fun b => b < wo.heap.size + 1) (wo.alloc (.cells #[.string ⟨#[98, 108, 111, 99, 107, 113, 117, 111, 116, 101]⟩, .string ⟨#[100, 105, 118]⟩, .string ⟨#[104, 49]⟩, .string ⟨#[104, 50]⟩, .string ⟨#[104, 114]⟩, .string ⟨#[108, 105]⟩, .string ⟨#[111, 108]⟩, .string ⟨#[112]⟩, .string ⟨#[112, 114, 101]⟩, .string ⟨#[116, 97, 98, 108, 101]⟩, .string ⟨#[117, 108]⟩] 9)) (.slice (some ⟨wo.heap.size, 0, none⟩) 11 11) cl_p := txs_made (fun b => b < wo.heap.size + 1) wo 9 cl_p 11 rfl (by decide) (by omega)
    have hb0 := (Below.refl wo.heap.size wo).alloc (Nat.le_refl _) (.cells #[.string ⟨#[98, 108, 111, 99, 107, 113, 117, 111, 116, 101]⟩, .string ⟨#[100, 105, 118]⟩, .string ⟨#[104, 49]⟩, .string ⟨#[104, 50]⟩, .string ⟨#[104, 114]⟩, .string ⟨#[108, 105]⟩, .string ⟨#[111, 108]⟩, .string ⟨#[112]⟩, .string ⟨#[112, 114, 101]⟩, .string ⟨#[116, 97, 98, 108, 101]⟩, .string ⟨#[117, 108]⟩] 9)
    have hcl : closedT o.data.toList = cl_p := by rw [h0]; rfl
    rw [← hcl] at hr
    clear hcl h0
    generalize closedT o.data.toList = l at *
    have hn : Hid (11 = l.length) := Lib.hid (Row.len hr).1
    have h0 : Hid (hasT b l = hasT b (l.drop 0)) := rfl
    replace hb0 := Lib.hid hb0
    go_enter Tryz.func80, Tryz.ntmps80
    go_wp2_with fail
    obtain ⟨W, hW⟩ : ∃ W, wo.alloc (.cells #[.string ⟨#[98, 108, 111, 99, 107, 113, 117, 111, 116, 101]⟩, .string ⟨#[100, 105, 118]⟩, .string ⟨#[104, 49]⟩, .string ⟨#[104, 50]⟩, .string ⟨#[104, 114]⟩, .string ⟨#[108, 105]⟩, .string ⟨#[111, 108]⟩, .string ⟨#[112]⟩, .string ⟨#[112, 114, 101]⟩, .string ⟨#[116, 97, 98, 108, 101]⟩, .string ⟨#[117, 108]⟩] 9) = W := ⟨_, rfl⟩
    rw [hW] at hr hb0 ⊢
    clear hW
    go_loopw [6] (fun u6 wr => W = wr ∧ ∃ i : Nat, i ≤ 11 ∧ u6 = .int .i64 (i : Int) ∧ Hid (hasT b l = hasT b (l.drop i))) (fun u6 _ => 11 - (intOf u6).toNat)
    case atStart => exact ⟨rfl, 0, by omega, rfl, h0⟩
    case round =>
      obtain ⟨rfl, i, hi, rfl, hv⟩ := hrel
      by_cases hlt : i < 11
      · have hl2 : i < l.length := by have := hn.out; omega
        obtain ⟨g, off, ea, _, c0⟩ := Row.atS hr i hl2
        cases ea
        simp only [Nat.zero_add] at c0
        have hd := hv.out.trans (hasT_drop b l i hl2)
        clear hv
        rw [beq_flip] at hd
        cases ht : (l[i].toList == b.toList)
        · rw [ht, Bool.false_or] at hd
          replace hd := Lib.hid hd
          generalize l[i] = t at *
          go_wp2_with fail
          go_roundw
          case rel => exact ⟨trivial, i + 1, by omega, by go_num, hd⟩
          case measure => exact meas_nat hlt
        · rw [ht, Bool.true_or] at hd
          replace hd := Lib.hid hd
          generalize l[i] = t at *
          go_wp2_with fail
          go_ret
          exact ⟨by rw [hd.out]; rfl, hb0.out⟩
      · obtain rfl : i = 11 := by omega
        have hd := hv.out
        rw [List.drop_of_length_le (by have := hn.out; omega)] at hd
        replace hd := Lib.hid hd
        clear hv
        go_wp2_with fail
        go_ret
        exact ⟨by rw [hd.out]; rfl, hb0.out⟩
  have e0 : (o.toList == [112]) = false := by rw [Lib.toList_data, beq_eq_false_iff_ne]; exact h0
  by_cases h1 : o.data.toList = [108, 105]
  · have e1 : (o.toList == [108, 105]) = true := by rw [Lib.toList_data, h1]; rfl
    have hr : Txs (fun b => b < wo.heap.size + 1) (wo.alloc (.cells #[.string ⟨#[108, 105]⟩] 9)) (.slice (some ⟨wo.heap.size, 0, none⟩) 1 1) cl_li := txs_made (fun b => b < wo.heap.size + 1) wo 9 cl_li 1 rfl (by decide) (by omega)
    have hb0 := (Below.refl wo.heap.size wo).alloc (Nat.le_refl _) (.cells #[.string ⟨#[108, 105]⟩] 9)
    have hcl : closedT o.data.toList = cl_li := by rw [h1]; rfl
    rw [← hcl] at hr
    clear hcl h1
    generalize closedT o.data.toList = l at *
    have hn : Hid (1 = l.length) := Lib.hid (Row.len hr).1
    have h0 : Hid (hasT b l = hasT b (l.drop 0)) := rfl
    replace hb0 := Lib.hid hb0
    go_enter Tryz.func80, Tryz.ntmps80
    go_wp2_with fail
    obtain ⟨W, hW⟩ : ∃ W, wo.alloc (.cells #[.string ⟨#[108, 105]⟩] 9) = W := ⟨_, rfl⟩
    rw [hW] at hr hb0 ⊢
    clear hW
    go_loopw [6] (fun u6 wr => W = wr ∧ ∃ i : Nat, i ≤ 1 ∧ u6 = .int .i64 (i : Int) ∧ Hid (hasT b l = hasT b (l.drop i))) (fun u6 _ => 1 - (intOf u6).toNat)
    case atStart => exact ⟨rfl, 0, by omega, rfl, h0⟩
    case round =>
      obtain ⟨rfl, i, hi, rfl, hv⟩ := hrel
      by_cases hlt : i < 1
      · have hl2 : i < l.length := by have := hn.out; omega
        obtain ⟨g, off, ea, _, c0⟩ := Row.atS hr i hl2
        cases ea
        simp only [Nat.zero_add] at c0
        have hd := hv.out.trans (hasT_drop b l i hl2)
        clear hv
        rw [beq_flip] at hd
        cases ht : (l[i].toList == b.toList)
        · rw [ht, Bool.false_or] at hd
          replace hd := Lib.hid hd
          generalize l[i] = t at *
          go_wp2_with fail
          go_roundw
          case rel => exact ⟨trivial, i + 1, by omega, by go_num, hd⟩
          case measure => exact meas_nat hlt
        · rw [ht, Bool.true_or] at hd
          replace hd := Lib.hid hd
          generalize l[i] = t at *
          go_wp2_with fail
          go_ret
          exact ⟨by rw [hd.out]; rfl, hb0.out⟩
      · obtain rfl : i = 1 := by omega
        have hd := hv.out
        rw [List.drop_of_length_le (by have := hn.out; omega)] at hd
        replace hd := Lib.hid hd
        clear hv
        go_wp2_with fail
        go_ret
        exact ⟨by rw [hd.out]; rfl, hb0.out⟩
  have e1 : (o.toList == [108, 105]) = false := by rw [Lib.toList_data, beq_eq_false_iff_ne]; exact h1
  by_cases h2 : o.data.toList = [100, 116]
  · have e2 : (o.toList == [100, 116]) = true := by rw [Lib.toList_data, h2]; rfl
    have hr : Txs (fun b => b < wo.heap.size + 1) (wo.alloc (.cells #[.string ⟨#[100, 100]⟩, .string ⟨#[100, 116]⟩] 9)) (.slice (some ⟨wo.heap.size, 0, none⟩) 2 2) cl_dt := txs_made (fun b => b < wo.heap.size + 1) wo 9 cl_dt 2 rfl (by decide) (by omega)
    have hb0 := (Below.refl wo.heap.size wo).alloc (Nat.le_refl _) (.cells #[.string ⟨#[100, 100]⟩, .string ⟨#[100, 116]⟩] 9)
    have hcl : closedT o.data.toList = cl_dt := by rw [h2]; rfl
    rw [← hcl] at hr
    clear hcl h2
    generalize closedT o.data.toList = l at *
    have hn : Hid (2 = l.length) := Lib.hid (Row.len hr).1
    have h0 : Hid (hasT b l = hasT b (l.drop 0)) := rfl
    replace hb0 := Lib.hid hb0
    go_enter Tryz.func80, Tryz.ntmps80
    go_wp2_with fail
    obtain ⟨W, hW⟩ : ∃ W, wo.alloc (.cells #[.string ⟨#[100, 100]⟩, .string ⟨#[100, 116]⟩] 9) = W := ⟨_, rfl⟩
    rw [hW] at hr hb0 ⊢
    clear hW
    go_loopw [6] (fun u6 wr => W = wr ∧ ∃ i : Nat, i ≤ 2 ∧ u6 = .int .i64 (i : Int) ∧ Hid (hasT b l = hasT b (l.drop i))) (fun u6 _ => 2 - (intOf u6).toNat)
    case atStart => exact ⟨rfl, 0, by omega, rfl, h0⟩
    case round =>
      obtain ⟨rfl, i, hi, rfl, hv⟩ := hrel
      by_cases hlt : i < 2
      · have hl2 : i < l.length := by have := hn.out; omega
        obtain ⟨g, off, ea, _, c0⟩ := Row.atS hr i hl2
        cases ea
        simp only [Nat.zero_add] at c0
        have hd := hv.out.trans (hasT_drop b l i hl2)
        clear hv
        rw [beq_flip] at hd
        cases ht : (l[i].toList == b.toList)
        · rw [ht, Bool.false_or] at hd
          replace hd := Lib.hid hd
          generalize l[i] = t at *
          go_wp2_with fail
          go_roundw
          case rel => exact ⟨trivial, i + 1, by omega, by go_num, hd⟩
          case measure => exact meas_nat hlt
        · rw [ht, Bool.true_or] at hd
          replace hd := Lib.hid hd
          generalize l[i] = t at *
          go_wp2_with fail
          go_ret
          exact ⟨by rw [hd.out]; rfl, hb0.out⟩
      · obtain rfl : i = 2 := by omega
        have hd := hv.out
        rw [List.drop_of_length_le (by have := hn.out; omega)] at hd
        replace hd := Lib.hid hd
        clear hv
        go_wp2_with fail
        go_ret
        exact ⟨by rw [hd.out]; rfl, hb0.out⟩
  have e2 : (o.toList == [100, 116]) = false := by rw [Lib.toList_data, beq_eq_false_iff_ne]; exact h2
  by_cases h3 : o.data.toList = [100, 100]
  · have e3 : (o.toList == [100, 100]) = true := by rw [Lib.toList_data, h3]; rfl
    have hr : Txs (fun b => b < wo.heap.size + 1) (wo.alloc (.cells #[.string ⟨#[100, 100]⟩, .string ⟨#[100, 116]⟩] 9)) (.slice (some ⟨wo.heap.size, 0, none⟩) 2 2) cl_dd := txs_made (fun b => b < wo.heap.size + 1) wo 9 cl_dd 2 rfl (by decide) (by omega)
    have hb0 := (Below.refl wo.heap.size wo).alloc (Nat.le_refl _) (.cells #[.string ⟨#[100, 100]⟩, .string ⟨#[100, 116]⟩] 9)
    have hcl : closedT o.data.toList = cl_dd := by rw [h3]; rfl
    rw [← hcl] at hr
    clear hcl h3
    generalize closedT o.data.toList = l at *
    have hn : Hid (2 = l.length) := Lib.hid (Row.len hr).1
    have h0 : Hid (hasT b l = hasT b (l.drop 0)) := rfl
    replace hb0 := Lib.hid hb0
    go_enter Tryz.func80, Tryz.ntmps80
    go_wp2_with fail
    obtain ⟨W, hW⟩ : ∃ W, wo.alloc (.cells #[.string ⟨#[100, 100]⟩, .string ⟨#[100, 116]⟩] 9) = W := ⟨_, rfl⟩
    rw [hW] at hr hb0 ⊢
    clear hW
    go_loopw [6] (fun u6 wr => W = wr ∧ ∃ i : Nat, i ≤ 2 ∧ u6 = .int .i64 (i : Int) ∧ Hid (hasT b l = hasT b (l.drop i))) (fun u6 _ => 2 - (intOf u6).toNat)
    case atStart => exact ⟨rfl, 0, by omega, rfl, h0⟩
    case round =>
      obtain ⟨rfl, i, hi, rfl, hv⟩ := hrel
      by_cases hlt : i < 2
      · have hl2 : i < l.length := by have := hn.out; omega
        obtain ⟨g, off, ea, _, c0⟩ := Row.atS hr i hl2
        cases ea
        simp only [Nat.zero_add] at c0
        have hd := hv.out.trans (hasT_drop b l i hl2)
        clear hv
        rw [beq_flip] at hd
        cases ht : (l[i].toList == b.toList)
        · rw [ht, Bool.false_or] at hd
          replace hd := Lib.hid hd
          generalize l[i] = t at *
          go_wp2_with fail
          go_roundw
          case rel => exact ⟨trivial, i + 1, by omega, by go_num, hd⟩
          case measure => exact meas_nat hlt
        · rw [ht, Bool.true_or] at hd
          replace hd := Lib.hid hd
          generalize l[i] = t at *
          go_wp2_with fail
          go_ret
          exact ⟨by rw [hd.out]; rfl, hb0.out⟩
      · obtain rfl : i = 2 := by omega
        have hd := hv.out
        rw [List.drop_of_length_le (by have := hn.out; omega)] at hd
        replace hd := Lib.hid hd
        clear hv
        go_wp2_with fail
        go_ret
        exact ⟨by rw [hd.out]; rfl, hb0.out⟩
  have e3 : (o.toList == [100, 100]) = false := by rw [Lib.toList_data, beq_eq_false_iff_ne]; exact h3
  by_cases h4 : o.data.toList = [111, 112, 116, 105, 111, 110]
  · have e4 : (o.toList == [111, 112, 116, 105, 111, 110]) = true := by rw [Lib.toList_data, h4]; rfl
    have hr : Txs (fun b => b < wo.heap.size + 1) (wo.alloc (.cells #[.string ⟨#[111, 112, 116, 105, 111, 110]⟩] 9)) (.slice (some ⟨wo.heap.size, 0, none⟩) 1 1) cl_option := txs_made (fun b => b < wo.heap.size + 1) wo 9 cl_option 1 rfl (by decide) (by omega)
    have hb0 := (Below.refl wo.heap.size wo).alloc (Nat.le_refl _) (.cells #[.string ⟨#[111, 112, 116, 105, 111, 110]⟩] 9)
    have hcl : closedT o.data.toList = cl_option := by rw [h4]; rfl
    rw [← hcl] at hr
    clear hcl h4
    generalize closedT o.data.toList = l at *
    have hn : Hid (1 = l.length) := Lib.hid (Row.len hr).1
    have h0 : Hid (hasT b l = hasT b (l.drop 0)) := rfl
    replace hb0 := Lib.hid hb0
    go_enter Tryz.func80, Tryz.ntmps80
    go_wp2_with fail
    obtain ⟨W, hW⟩ : ∃ W, wo.alloc (.cells #[.string ⟨#[111, 112, 116, 105, 111, 110]⟩] 9) = W := ⟨_, rfl⟩
    rw [hW] at hr hb0 ⊢
    clear hW
    go_loopw [6] (fun u6 wr => W = wr ∧ ∃ i : Nat, i ≤ 1 ∧ u6 = .int .i64 (i : Int) ∧ Hid (hasT b l = hasT b (l.drop i))) (fun u6 _ => 1 - (intOf u6).toNat)
    case atStart => exact ⟨rfl, 0, by omega, rfl, h0⟩
    case round =>
      obtain ⟨rfl, i, hi, rfl, hv⟩ := hrel
      by_cases hlt : i < 1
      · have hl2 : i < l.length := by have := hn.out; omega
        obtain ⟨g, off, ea, _, c0⟩ := Row.atS hr i hl2
        cases ea
        simp only [Nat.zero_add] at c0
        have hd := hv.out.trans (hasT_drop b l i hl2)
        clear hv
        rw [beq_flip] at hd
        cases ht : (l[i].toList == b.toList)
        · rw [ht, Bool.false_or] at hd
          replace hd := Lib.hid hd
          generalize l[i] = t at *
          go_wp2_with fail
          go_roundw
          case rel => exact ⟨trivial, i + 1, by omega, by go_num, hd⟩
          case measure => exact meas_nat hlt
        · rw [ht, Bool.true_or] at hd
          replace hd := Lib.hid hd
          generalize l[i] = t at *
          go_wp2_with fail
          go_ret
          exact ⟨by rw [hd.out]; rfl, hb0.out⟩
      · obtain rfl : i = 1 := by omega
        have hd := hv.out
        rw [List.drop_of_length_le (by have := hn.out; omega)] at hd
        replace hd := Lib.hid hd
        clear hv
        go_wp2_with fail
        go_ret
        exact ⟨by rw [hd.out]; rfl, hb0.out⟩
  have e4 : (o.toList == [111, 112, 116, 105, 111, 110]) = false := by rw [Lib.toList_data, beq_eq_false_iff_ne]; exact h4
  by_cases h5 : o.data.toList = [116, 100]
  · have e5 : (o.toList == [116, 100]) = true := by rw [Lib.toList_data, h5]; rfl
    have hr : Txs (fun b => b < wo.heap.size + 1) (wo.alloc (.cells #[.string ⟨#[116, 100]⟩, .string ⟨#[116, 114]⟩] 9)) (.slice (some ⟨wo.heap.size, 0, none⟩) 2 2) cl_td := txs_made (fun b => b < wo.heap.size + 1) wo 9 cl_td 2 rfl (by decide) (by omega)
    have hb0 := (Below.refl wo.heap.size wo).alloc (Nat.le_refl _) (.cells #[.string ⟨#[116, 100]⟩, .string ⟨#[116, 114]⟩] 9)
    have hcl : closedT o.data.toList = cl_td := by rw [h5]; rfl
    rw [← hcl] at hr
    clear hcl h5
    generalize closedT o.data.toList = l at *
    have hn : Hid (2 = l.length) := Lib.hid (Row.len hr).1
    have h0 : Hid (hasT b l = hasT b (l.drop 0)) := rfl
    replace hb0 := Lib.hid hb0
    go_enter Tryz.func80, Tryz.ntmps80
    go_wp2_with fail
    obtain ⟨W, hW⟩ : ∃ W, wo.alloc (.cells #[.string ⟨#[116, 100]⟩, .string ⟨#[116, 114]⟩] 9) = W := ⟨_, rfl⟩
    rw [hW] at hr hb0 ⊢
    clear hW
    go_loopw [6] (fun u6 wr => W = wr ∧ ∃ i : Nat, i ≤ 2 ∧ u6 = .int .i64 (i : Int) ∧ Hid (hasT b l = hasT b (l.drop i))) (fun u6 _ => 2 - (intOf u6).toNat)
    case atStart => exact ⟨rfl, 0, by omega, rfl, h0⟩
    case round =>
      obtain ⟨rfl, i, hi, rfl, hv⟩ := hrel
      by_cases hlt : i < 2
      · have hl2 : i < l.length := by have := hn.out; omega
        obtain ⟨g, off, ea, _, c0⟩ := Row.atS hr i hl2
        cases ea
        simp only [Nat.zero_add] at c0
        have hd := hv.out.trans (hasT_drop b l i hl2)
        clear hv
        rw [beq_flip] at hd
        cases ht : (l[i].toList == b.toList)
        · rw [ht, Bool.false_or] at hd
          replace hd := Lib.hid hd
          generalize l[i] = t at *
          go_wp2_with fail
          go_roundw
          case rel => exact ⟨trivial, i + 1, by omega, by go_num, hd⟩
          case measure => exact meas_nat hlt
        · rw [ht, Bool.true_or] at hd
          replace hd := Lib.hid hd
          generalize l[i] = t at *
          go_wp2_with fail
          go_ret
          exact ⟨by rw [hd.out]; rfl, hb0.out⟩
      · obtain rfl : i = 2 := by omega
        have hd := hv.out
        rw [List.drop_of_length_le (by have := hn.out; omega)] at hd
        replace hd := Lib.hid hd
        clear hv
        go_wp2_with fail
        go_ret
        exact ⟨by rw [hd.out]; rfl, hb0.out⟩
  have e5 : (o.toList == [116, 100]) = false := by rw [Lib.toList_data, beq_eq_false_iff_ne]; exact h5
  by_cases h6 : o.data.toList = [116, 114]
  · have e6 : (o.toList == [116, 114]) = true := by rw [Lib.toList_data, h6]; rfl
    have hr : Txs (fun b => b < wo.heap.size + 1) (wo.alloc (.cells #[.string ⟨#[116, 114]⟩] 9)) (.slice (some ⟨wo.heap.size, 0, none⟩) 1 1) cl_tr := txs_made (fun b => b < wo.heap.size + 1) wo 9 cl_tr 1 rfl (by decide) (by omega)
    have hb0 := (Below.refl wo.heap.size wo).alloc (Nat.le_refl _) (.cells #[.string ⟨#[116, 114]⟩] 9)
    have hcl : closedT o.data.toList = cl_tr := by rw [h6]; rfl
    rw [← hcl] at hr
    clear hcl h6
    generalize closedT o.data.toList = l at *
    have hn : Hid (1 = l.length) := Lib.hid (Row.len hr).1
    have h0 : Hid (hasT b l = hasT b (l.drop 0)) := rfl
    replace hb0 := Lib.hid hb0
    go_enter Tryz.func80, Tryz.ntmps80
    go_wp2_with fail
    obtain ⟨W, hW⟩ : ∃ W, wo.alloc (.cells #[.string ⟨#[116, 114]⟩] 9) = W := ⟨_, rfl⟩
    rw [hW] at hr hb0 ⊢
    clear hW
    go_loopw [6] (fun u6 wr => W = wr ∧ ∃ i : Nat, i ≤ 1 ∧ u6 = .int .i64 (i : Int) ∧ Hid (hasT b l = hasT b (l.drop i))) (fun u6 _ => 1 - (intOf u6).toNat)
    case atStart => exact ⟨rfl, 0, by omega, rfl, h0⟩
    case round =>
      obtain ⟨rfl, i, hi, rfl, hv⟩ := hrel
      by_cases hlt : i < 1
      · have hl2 : i < l.length := by have := hn.out; omega
        obtain ⟨g, off, ea, _, c0⟩ := Row.atS hr i hl2
        cases ea
        simp only [Nat.zero_add] at c0
        have hd := hv.out.trans (hasT_drop b l i hl2)
        clear hv
        rw [beq_flip] at hd
        cases ht : (l[i].toList == b.toList)
        · rw [ht, Bool.false_or] at hd
          replace hd := Lib.hid hd
          generalize l[i] = t at *
          go_wp2_with fail
          go_roundw
          case rel => exact ⟨trivial, i + 1, by omega, by go_num, hd⟩
          case measure => exact meas_nat hlt
        · rw [ht, Bool.true_or] at hd
          replace hd := Lib.hid hd
          generalize l[i] = t at *
          go_wp2_with fail
          go_ret
          exact ⟨by rw [hd.out]; rfl, hb0.out⟩
      · obtain rfl : i = 1 := by omega
        have hd := hv.out
        rw [List.drop_of_length_le (by have := hn.out; omega)] at hd
        replace hd := Lib.hid hd
        clear hv
        go_wp2_with fail
        go_ret
        exact ⟨by rw [hd.out]; rfl, hb0.out⟩
  have e6 : (o.toList == [116, 114]) = false := by rw [Lib.toList_data, beq_eq_false_iff_ne]; exact h6
  have hcl : closedT o.data.toList = [] := by unfold closedT; rw [if_neg h0, if_neg h1, if_neg h2, if_neg h3, if_neg h4, if_neg h5, if_neg h6]
  rw [hcl]
  clear hcl hl8 h0 h1 h2 h3 h4 h5 h6
  go_enter Tryz.func80, Tryz.ntmps80
  go_wp2_with fail
  go_loopw [6] (fun u6 wr => wo = wr ∧ u6 = .int .i64 0) (fun u6 _ => 0)
  case atStart => exact ⟨rfl, rfl⟩
  case round =>
    obtain ⟨rfl, rfl⟩ := hrel
    go_wp2_with fail
    go_ret
    exact ⟨rfl, Below.refl _ _⟩
end Go.Proofs.YteefodibpjgicaaGreat

namespace Go.Proofs.YteefodibpjgicaaGreat
open Go.RowKit
def Ints (S : Nat → Prop) (w : World) (v : Value) (l : List Nat) : Prop := Row S w 1 v l.length (l.map fun k : Nat => Value.int .i64 (k : Int))
theorem Ints.at_ {S : Nat → Prop} {w : World} {a : Option Addr} {n cap : Nat} {l : List Nat} (h : Ints S w (.slice a n cap) l) (i k : Nat) (hk : l[i]? = some k) :
    ∃ b off, a = some ⟨b, off, none⟩ ∧ S b ∧ w.cell? ⟨b, off + i, none⟩ = some (.int .i64 (k : Int)) := by
  obtain ⟨h0, a', cap', h1, h2, h3, h4, h5⟩ := h
  cases h1
  have hi := (List.getElem?_eq_some_iff.1 hk).1
  obtain ⟨b, off, rfl, h7, h8⟩ := h5 (by omega)
  exact ⟨b, off, rfl, h7, h8 i _ (by rw [List.getElem?_map, hk]; rfl)⟩
theorem Ints.below {S : Nat → Prop} {w w' : World} {v : Value} {l : List Nat} (h : Ints S w v l) (hS : ∀ b, S b → b < w.heap.size) (hb : Below w.heap.size w w') : Ints S w' v l := Row.keep h (fun b h => hb.block b (hS b h))
theorem infoStr : (Tryz.prog.info? 9).map (fun i => (i.zero, i.size, i.bytes)) = some (some (.string ⟨#[]⟩), 1, 16) := by kernel_rfl
theorem infoInt7 : (Tryz.prog.info? 3).map (fun i => (i.zero, i.size, i.bytes)) = some (some (.int .i64 0), 1, 8) := by kernel_rfl
set_option maxHeartbeats 2000000 in
theorem ref07count (S : Nat → Prop) (v vp : Value) (L : List Nd) (d : Nat) (w : World) (hS : ∀ b, S b → b < w.heap.size) (hr : RepN S w v L) (hok : M7.okD d L) (hp : Ints S w vp (M7.pathN d L)) :
    Calls Tryz.prog 82 #[v, vp] w fun e w' => e = .returned (.int .i64 ((M7.levelN d L).length : Int)) ∧ w = w' := by
  obtain ⟨a, cap, rfl⟩ := hr.slice
  obtain ⟨ap, cp, hvp⟩ := Row.slice hp
  have hpl := M7.pathN_len hok
  subst hvp
  obtain ⟨_, hlc, hcm⟩ := Row.len hp
  rw [hpl] at hlc
  rw [hpl] at hp ⊢
  replace hok := Lib.hid hok
  obtain ⟨wo, rfl⟩ : ∃ wo : World, wo = w := ⟨_, rfl⟩
  go_enter Tryz.func82, Tryz.ntmps82
  go_wp2_with fail
  go_loopw [0, 5] (fun u0 u5 wr => wo = wr ∧ ∃ i : Nat, i ≤ d ∧ u5 = .int .i64 (i : Int) ∧ RepN S wo u0 (M7.levelN i L)) (fun _ u5 _ => d - (intOf u5).toNat)
  case atStart => exact ⟨rfl, 0, by omega, rfl, hr⟩
  case round =>
    obtain ⟨rfl, i, hi, rfl, hl⟩ := hrel
    obtain ⟨a0, c0, hu0⟩ := hl.slice
    subst hu0
    obtain ⟨_, hlc2, hcm2⟩ := hl.len
    by_cases hlt : i < d
    · obtain ⟨A, x, q1, q2, q3, _⟩ := M7.level_at hok.out hlt
      obtain ⟨b, off, ea, hSb, k0⟩ := Ints.at_ hp i _ q3
      subst ea
      rw [q1] at hl hlc2
      obtain ⟨b2, off2, va, vk, ea, hSb2, c0', c1, c2, c3, c4, hrv⟩ := hl.at_ A.length (by simp)
      subst ea
      rw [List.getElem_append_right (Nat.le_refl _)] at hrv
      simp only [Nat.sub_self, List.getElem_cons_zero] at hrv
      have hk : RepN S wo vk (M7.levelN (i + 1) L) := by rw [q2]; exact hrv.kids
      obtain ⟨a4, c4', hvk⟩ := hrv.kids.slice
      subst hvk
      have hll : (A ++ [x]).length = A.length + 1 := by simp
      rw [hll] at hlc2
      have hA0 : (0 : Int) ≤ (A.length : Int) := by omega
      have hA1 : (A.length : Int) < (A.length : Int) + 1 := by omega
      rw [q1, hll]
      clear q1 q2 q3 hl hrv
      replace hk := Lib.hid hk
      go_wp2_with fail
      go_roundw
      case rel => exact ⟨trivial, i + 1, by omega, by go_num, hk.out⟩
      case measure => exact meas_nat hlt
    · obtain rfl : i = d := by omega
      go_wp2_with fail
      go_ret
      exact ⟨rfl, rfl⟩
def NewTxs (l : List ByteArray) (w : World) (e : Ending) (w' : World) : Prop := ∃ v', e = .returned v' ∧ Txs (fun b => w.heap.size ≤ b ∧ b < w'.heap.size) w' v' l ∧ Below w.heap.size w w'
set_option maxHeartbeats 4000000 in
set_option maxRecDepth 100000 in
theorem ref07Open (S : Nat → Prop) (v vp : Value) (L : List Nd) (d : Nat) (w : World) (hS : ∀ b, S b → b < w.heap.size) (hr : RepN S w v L) (hok : M7.okD d L) (hd : d ≤ 1000000) (hp : Ints S w vp (M7.pathN d L)) :
    Calls Tryz.prog 81 #[.agg #[v, vp]] w (NewTxs (M7.openN d L) w) := by
  obtain ⟨a, cap, rfl⟩ := hr.slice
  obtain ⟨ap, cp, hvp⟩ := Row.slice hp
  have hpl := M7.pathN_len hok
  have hol := M7.openN_len hok
  subst hvp
  obtain ⟨_, hlc, hcm⟩ := Row.len hp
  rw [hpl] at hlc
  rw [hpl] at hp ⊢
  replace hok := Lib.hid hok
  obtain ⟨wo, rfl⟩ : ∃ wo : World, wo = w := ⟨_, rfl⟩
  have bx := Box.new wo 84 [.slice a L.length cap, .slice ap d cp]
  have hb0 : Below wo.heap.size wo (wo.alloc (.cells #[.slice a L.length cap, .slice ap d cp] 84)) := (Below.refl _ wo).alloc (Nat.le_refl _) _
  have hsz : (wo.alloc (.cells #[.slice a L.length cap, .slice ap d cp] 84)).heap.size = wo.heap.size + 1 := by simp
  have hr0 := hr.below hS hb0
  go_enter Tryz.func81, Tryz.ntmps81
  go_wp2_with fail
  obtain ⟨w0, hw0⟩ : ∃ W, wo.alloc (.cells #[.slice a L.length cap, .slice ap d cp] 84) = W := ⟨_, rfl⟩
  change Box (wo.alloc (.cells #[.slice a L.length cap, .slice ap d cp] 84)) _ _ _ at bx
  rw [hw0] at bx hb0 hsz hr0 ⊢
  clear hw0
  have hp0 := Ints.below hp hS hb0
  go_loopw [3, 4, 5] (fun u3 u4 u5 wr => ∃ i : Nat, i ≤ d ∧ u5 = .int .i64 (i : Int) ∧ RepN S wr u4 (M7.levelN i L) ∧ wr.ownsRow w0.heap.size 9 1 u3 i (((M7.openN d L).take i).flatMap fun s => [.string s]) ∧ Below w0.heap.size w0 wr) (fun _ _ u5 _ => d - (intOf u5).toNat)
  case atStart => exact ⟨0, by omega, rfl, hr0, World.ownsRow_nil _ _ _ _, Below.refl _ _⟩
  case round =>
    obtain ⟨i, hi, rfl, hl, hown, hb⟩ := hrel
    have hz := hb.size
    obtain ⟨a0, c0, hu0⟩ := hl.slice
    subst hu0
    obtain ⟨_, hlc2, hcm2⟩ := hl.len
    have bxr := bx.below hb (by omega)
    have p0 := bxr.cell (i := 0) rfl
    have p1 := bxr.cell (i := 1) rfl
    by_cases hlt : i < d
    · obtain ⟨A, x, q1, q2, q3, q4⟩ := M7.level_at hok.out hlt
      have hpr : Ints S wr (.slice ap d cp) (M7.pathN d L) := Row.keep hp0 (fun b h => hb.block b (by have := hS b h; omega))
      obtain ⟨b, off, ea, hSb, k0⟩ := Ints.at_ hpr i _ q3
      subst ea
      rw [q1] at hl hlc2
      obtain ⟨b2, off2, va, vk, ea, hSb2, c0', c1, c2, c3, c4, hrv⟩ := hl.at_ A.length (by simp)
      subst ea
      rw [List.getElem_append_right (Nat.le_refl _)] at c1 hrv
      simp only [Nat.sub_self, List.getElem_cons_zero] at c1 hrv
      have hk : RepN S wr vk (M7.levelN (i + 1) L) := by rw [q2]; exact hrv.kids
      obtain ⟨a4, c4', hvk⟩ := hrv.kids.slice
      subst hvk
      have hll : (A ++ [x]).length = A.length + 1 := by simp
      rw [hll] at hlc2
      have hA0 : (0 : Int) ≤ (A.length : Int) := by omega
      have hA1 : (A.length : Int) < (A.length : Int) + 1 := by omega
      have hbl2 := hS b2 hSb2
      have htk : (M7.openN d L).take (i + 1) = (M7.openN d L).take i ++ [x.name] := by
        rw [List.take_add_one, q4]; rfl
      rw [q1, hll]
      clear q1 q2 q3 q4 hl hrv
      replace hk := Lib.hid hk
      replace htk := Lib.hid htk
      have hl2 : ∀ c, c < w0.heap.size → some c ≠ u3.ownBlock := fun c hc e => by have := (hown.lt c e.symm).1; omega
      have hbl := hS b hSb
      go_wp2_with (at_builtin
                   refine wpList_appK wr [.string x.name] 1 rfl _ _ 92 9 rfl w0.heap.size Tryz.underlying92 infoStr rfl (by omega) _ i (((M7.openN d L).take i).flatMap fun s => [.string s]) rfl hown wr.heap.size rfl (by rfl) rfl (by simp [Value.oneCell']) (by omega) (by omega) hz ?_
                   intro g cp2 w2 hown2 hgrow2 hat2
                   have p0' := (World.cell?_of_block (a := ⟨wo.heap.size, 0, none⟩) (hgrow2.block wo.heap.size (by omega) (hl2 _ (by omega)))).trans p0
                   have p1' := (World.cell?_of_block (a := ⟨wo.heap.size, 1, none⟩) (hgrow2.block wo.heap.size (by omega) (hl2 _ (by omega)))).trans p1
                   have k0' := (World.cell?_of_block (a := ⟨b, off + i, none⟩) (hgrow2.block b (by omega) (hl2 _ (by omega)))).trans k0
                   have c4'' := (World.cell?_of_block (a := ⟨b2, off2 + A.length * 5 + 4, none⟩) (hgrow2.block b2 (by omega) (hl2 _ (by omega)))).trans c4)
      have hb2 : Below w0.heap.size w0 w2 := below_own hb hown hgrow2 hz (Nat.le_refl _)
      have hk2 : Hid (RepN S w2 (.slice a4 x.kids.length c4') (M7.levelN (i + 1) L)) := hk.out.keep (fun c hc => hgrow2.block c (by have := hS c hc; omega) (hl2 c (by have := hS c hc; omega)))
      have hown3 : w2.ownsRow w0.heap.size 9 1 (.slice (some ⟨g, 0, none⟩) (i + 1) cp2) (i + 1) (((M7.openN d L).take (i + 1)).flatMap fun s => [.string s]) := by
        rw [htk.out, List.flatMap_append]; exact hown2
      clear hown2 hgrow2 hat2 hk hl2
      go_roundw
      case rel => exact ⟨i + 1, by omega, by go_num, hk2.out, hown3, hb2⟩
      case measure => exact meas_nat hlt
    · obtain rfl : i = d := by omega
      have hres : Hid (Txs (fun b => wo.heap.size ≤ b ∧ b < wr.heap.size) wr u3 (M7.openN i L)) := by
        rw [List.take_of_length_le (by omega)] at hown
        exact Row.mono (Row.own (S := fun b => wo.heap.size ≤ b ∧ b < wr.heap.size) (by rw [hol]; exact hown) (fun g hg => ⟨by have := (hown.lt g hg).1; omega, (hown.lt g hg).2⟩)) (fun b h => h)
      have hbo := bt hb0 hb
      clear hown
      go_wp2_with fail
      go_ret
      exact ⟨u3, rfl, hres.out, hbo⟩
end Go.Proofs.YteefodibpjgicaaGreat

namespace Go.Proofs.YteefodibpjgicaaGreat
open Go.RowKit
theorem Row.rest1 {S : Nat → Prop} {w : World} {b off n cap : Nat} {u : Value} {xs : List Value} (h : Row S w 1 (.slice (some ⟨b, off, none⟩) n cap) (xs.length + 1) (u :: xs)) :
    Row S w 1 (.slice (if cap = 1 then some ⟨b, off, none⟩ else some ⟨b, off + 1, none⟩) (n - 1) (cap - 1)) xs.length xs := by
  obtain ⟨h0, a', cap', h1, h2, h3, h4, h5⟩ := h
  cases h1
  obtain ⟨b', off', e, hb, hx⟩ := h5 (by omega)
  cases e
  refine ⟨by simp, _, cap - 1, by rw [show xs.length + 1 - 1 = xs.length by omega], by omega, by omega, (fun e => by split at e <;> cases e), fun hp => ?_⟩
  rw [if_neg (by omega)]
  exact ⟨b, off + 1, rfl, hb, fun j y hj => by
    have := hx (j + 1) y (by simpa using hj)
    rwa [show off + (j + 1) = off + 1 + j by omega] at this⟩
end Go.Proofs.YteefodibpjgicaaGreat

namespace Go.Proofs.YteefodibpjgicaaGreat
open Go.RowKit
theorem cellsV_ones {L : List NV} (h : ∀ b ∈ L, b.ok) : ∀ u ∈ cellsV L, u.oneCell' = true := by
  intro u hu
  obtain ⟨b, hb, hu⟩ := List.mem_flatMap.1 hu
  obtain ⟨⟨a1, c1, h1⟩, a2, c2, h2⟩ := h b hb
  simp only [NV.cells, h1, h2, List.mem_cons, List.not_mem_nil, or_false] at hu
  rcases hu with rfl | rfl | rfl | rfl | rfl <;> rfl
theorem wpList_spread {P : Program} {ops : Array Oper} {rest : List Oper} {o : Oper} {a : Act} {Q : Exit → Act → World → Prop} (w1 : World) (k : Nat) (S : Nat → Prop) (hgd : o.guard = none) (s y : Operand) (t e : TypeId)
    (ho : o.op = .call { callee := .builtin .append, args := #[s, y], argTypes := #[t, t] }) (base : Nat) {z : Value} {bytes : Nat} (ht : P.underlying t = some (.slice e))
    (hinfo : (P.info? e).map (fun i => (i.zero, i.size, i.bytes)) = some (some z, k, bytes)) (hz : z.cells.size = k) (hk : 0 < k)
    (v : Value) (n : Nat) (xs : List Value) (hs : a.eval s = v) (hown : w1.ownsRow base e k v n xs) (yv : Value) (m : Nat) (ys : List Value) (hy : a.eval y = yv) (hx : Row S w1 k yv m ys) (h1 : ∀ u ∈ ys, u.oneCell' = true)
    (h63 : n + m ≤ 9223372036854775807) (hbytes : (n + m) * bytes ≤ 140737488355328) (hbase : base ≤ w1.heap.size)
    (h : ∀ v' w2, w2.ownsRow base e k v' (n + m) (xs ++ ys) → w1.grownBy w2 v.ownBlock → wpList P ops Q rest (a.put o.dst v') w2) : wpList P ops Q (o :: rest) a w1 := by
  obtain ⟨i, hi, hz0, hz1, hz2⟩ := info_parts hinfo
  obtain ⟨hl, ad, cap, rfl, h2, h3, h4, h5⟩ := hx
  cases ad with
  | none =>
    have h6 := h4 rfl
    obtain rfl : m = 0 := by omega
    have h7 : ys = [] := List.eq_nil_of_length_eq_zero (by omega)
    subst h7
    subst h6
    refine wpList_append_own_none hgd s y t ho base e i k ht hi v n xs hs hown hy ?_
    exact h v w1 (by simpa using hown) ⟨rfl, rfl, rfl, Nat.le_refl _, fun _ _ _ => rfl⟩
  | some ad =>
    refine wpList_append_own _ hgd s y t ho base e i z k bytes ht hi hz0 hz1 hz2 hz hk v n xs hs hown ad m cap ys hy hl ?_ h1 (by unfold maxLen; omega) hbytes hbase ?_
    · intro j u hj
      have hj' := (List.getElem?_eq_some_iff.1 hj).1
      have hm : 0 < m := by
        rcases Nat.eq_zero_or_pos m with e | e
        · subst e; omega
        · exact e
      obtain ⟨b, off, h6, _, h8⟩ := h5 hm
      cases h6
      rw [add_plain']
      exact h8 j u hj
    · intro v' w2 h8 h9 _
      exact h v' w2 h8 h9
theorem setKids7 (A : List NV) (b : NV) (kv : Value) (ks : List Nd) (i : Nat) (h : i = A.length) : (cellsV (A ++ [b])).set (i * 5 + 4) kv = cellsV (A ++ [(⟨M7.wk b.x ks, b.va, kv⟩ : NV)]) := by
  subst h
  rw [cellsV_snoc, cellsV_snoc]
  have h5 : (cellsV A).length = A.length * 5 := cellsV_len A
  rw [List.set_append_right _ _ (by omega), h5, show A.length * 5 + 4 - A.length * 5 = 4 by omega]
  obtain ⟨x, va, vk⟩ := b
  cases x
  rfl
def StJ (S : Nat → Prop) (w0 : World) (g off c n : Nat) (l : List Nd) (f : Nat → Bool) (t : Nat → Value) (W : World) : Prop :=
  (f n = false → Below w0.heap.size w0 W ∧ (f c = true → RepN (fun b => S b ∨ (w0.heap.size ≤ b ∧ b < W.heap.size)) W (t c) l)) ∧
  (f n = true → (∀ j, j < c + 1 → f j = true) ∧ ∃ W0, Below w0.heap.size w0 W0 ∧ RepN (fun b => S b ∨ (w0.heap.size ≤ b ∧ b < W0.heap.size)) W0 (t c) l ∧ W = W0.setCell ⟨g, off, none⟩ (t c))
section
variable {S : Nat → Prop} {w0 W : World} {g off c n : Nat} {l : List Nd} {f : Nat → Bool} {t : Nat → Value}
theorem StJ.start (S : Nat → Prop) (w0 : World) (g off c n : Nat) (l : List Nd) (t : Nat → Value) (hc : c < n) : StJ S w0 g off c n l (fun j => decide (n + 1 ≤ j)) t w0.drew :=
  ⟨fun _ => ⟨(Below.refl _ w0).drew, fun h => by simp at h; omega⟩, fun h => by simp at h; omega⟩
theorem StJ.notlast (h : StJ S w0 g off c n l f t W) {j : Nat} (hj : j < c + 1 ∨ j = n) (hf : f j = false) : f n = false := by
  cases h10 : f n
  · rfl
  · rcases hj with hl | rfl
    · have := (h.2 h10).1 j hl
      rw [hf] at this
      cases this
    · rw [h10] at hf
      cases hf
theorem StJ.same (h : StJ S w0 g off c n l f t W) (j : Nat) (v : Value) (h1 : j ≠ c) (h2 : j ≠ n) : StJ S w0 g off c n l (updF f j) (updT t j v) W := by
  refine ⟨fun e => ?_, fun e => ?_⟩
  · rw [updF_ne f (Ne.symm h2)] at e
    rw [updF_ne f (Ne.symm h1), updT_ne _ _ (Ne.symm h1)]
    exact h.1 e
  · rw [updF_ne f (Ne.symm h2)] at e
    obtain ⟨e1, e2⟩ := h.2 e
    rw [updT_ne _ _ (Ne.symm h1)]
    exact ⟨fun k hk => by unfold updF; split; rfl; exact e1 k hk, e2⟩
theorem StJ.call (h : StJ S w0 g off c n l f t W) (hn : f n = false) (hc : c ≠ n) {W' : World} {v : Value} (hv : RepN (fun b => S b ∨ (W.heap.size ≤ b ∧ b < W'.heap.size)) W' v l) (hb : Below W.heap.size W W') : StJ S w0 g off c n l (updF f c) (updT t c v) W' := by
  obtain ⟨q1, _⟩ := h.1 hn
  have hz := q1.size
  refine ⟨fun _ => ⟨bt q1 hb, fun _ => ?_⟩, fun e => ?_⟩
  · rw [updT_same]
    refine hv.mono (fun b hb' => ?_)
    rcases hb' with hb' | hb'
    · exact Or.inl hb'
    · exact Or.inr ⟨by omega, hb'.2⟩
  · rw [updF_ne f (Ne.symm hc), hn] at e
    cases e
theorem StJ.put (h : StJ S w0 g off c n l f t W) (hn : f n = false) (hc : c < n) (hall : ∀ j, j < c + 1 → f j = true) (v : Value) : StJ S w0 g off c n l (updF f n) (updT t n v) (W.setCell ⟨g, off, none⟩ (t c)) := by
  obtain ⟨q1, q2⟩ := h.1 hn
  refine ⟨fun e => by simp at e, fun _ => ⟨fun k hk => by unfold updF; split; rfl; exact hall k hk, W, q1, ?_, ?_⟩⟩
  · rw [updT_ne _ _ (by omega)]; exact q2 (hall c (by omega))
  · rw [updT_ne _ _ (by omega)]
end
theorem own_cap7 {w : World} {B g cap n : Nat} {xs : List Value} (h : w.ownsRow B 41 5 (.slice (some ⟨g, 0, none⟩) n cap) n xs) : (cap : Int) ≤ 9223372036854775807 ∧ (n : Int) ≤ (cap : Int) := by
  rcases h.2 with ⟨h', _⟩ | ⟨g', cap', cur, h', _, _, q1, q2, _⟩
  · cases h'
  · cases h'
    unfold maxLen at q2
    omega
theorem own_at7 {w : World} {B g n : Nat} {cap : Nat} {L : List NV} (h : w.ownsRow B 41 5 (.slice (some ⟨g, 0, none⟩) n cap) n (cellsV L)) (i : Nat) (hi : i < L.length) :
    w.cell? ⟨g, i * 5, none⟩ = some (.int .i64 L[i].x.kind) ∧ w.cell? ⟨g, i * 5 + 4, none⟩ = some L[i].vk ∧ w.frozen? ⟨g, i * 5 + 4, none⟩ = false := by
  obtain ⟨c0, c1, c2, c3, c4⟩ := cellsV_at L i hi
  have hc := fun j u hu => h.cells (g := g) rfl j u hu
  refine ⟨by have := hc _ _ c0; rwa [add_plain', Nat.zero_add] at this, by have := hc _ _ c4; rwa [add_plain', Nat.zero_add] at this, ?_⟩
  rcases h.2 with ⟨h', _⟩ | ⟨g', cap', cur, h', _, hg, _⟩
  · cases h'
  · cases h'
    simp [World.frozen?, hg]
def ShrP (S : Nat → Prop) (l : List Nd) (w : World) (e : Ending) (w' : World) : Prop := ∃ v', e = .returned v' ∧ RepN (fun b => S b ∨ (w.heap.size ≤ b ∧ b < w'.heap.size)) w' v' l ∧ Below w.heap.size w w'
theorem ShrP.of_row {S : Nat → Prop} {w w' : World} {v' : Value} {L : List NV} (hS : ∀ b, S b → b < w.heap.size) (hown : w'.ownsRow w.heap.size 41 5 v' L.length (cellsV L)) (hb : Below w.heap.size w w') (hL : ∀ b ∈ L, RepV S w b.x b.va b.vk) : RepN (fun b => S b ∨ (w.heap.size ≤ b ∧ b < w'.heap.size)) w' v' (L.map NV.x) :=
  ⟨cellsV L, by rw [List.length_map]; exact Row.own hown (fun g hg => Or.inr (hown.lt g hg)), RepC.of_nv (fun b hb' => ((hL b hb').below hS hb).mono (fun c hc => Or.inl hc))⟩
theorem push_cat {o : List Nd} {x y : Nd} (hx : M3.isText x = true) (hy : M3.isText y = true) : M3.push (o ++ [y]) x = o ++ [M3.withText y (M3.cat y.text x.text)] := by
  cases h : M3.bareB x
  · rw [M3.push_snoc h, hx, hy, Bool.and_self, if_pos rfl]
  · rw [M3.push_bare h]
    have h2 := (M3.bareB_iff.1 h).2
    have h3 : x.text.data.toList = [] := M3.nilB_iff.1 h2
    cases y
    unfold M3.withText M3.cat
    rw [h3, List.append_nil]
    rfl
theorem push_end {L : List Nd} {x : Nd} (h : M3.bareB x = false) (hL : M3.isText x = false ∨ ∀ o y, L = o ++ [y] → M3.isText y = false) : M3.push L x = L ++ [x] := by
  rcases List.eq_nil_or_concat L with rfl | ⟨o, y, rfl⟩
  · rw [M3.push_none h]; rfl
  · rw [List.concat_eq_append] at *
    rw [M3.push_snoc h]
    rcases hL with hL | hL
    · rw [hL, Bool.false_and, if_neg Bool.false_ne_true]
    · rw [hL o y rfl, Bool.and_false, if_neg Bool.false_ne_true]
set_option maxHeartbeats 16000000 in
set_option maxRecDepth 100000 in
theorem ref07put (d : Nat) : ∀ (S : Nat → Prop) (v vp : Value) (L : List Nd) (x : Nd) (va vk : Value) (w : World), M7.okD d L → d ≤ 1000000 → M3.weight L ≤ 100000 → dtN L + x.text.size ≤ 1073741824 → (∀ b, S b → b < w.heap.size) → RepN S w v L → Ints S w vp (M7.pathN d L) → RepV S w x va vk →
    Calls Tryz.prog 83 #[v, vp, x.val va vk] w (ShrP S (M7.putN d x L) w) := by
  induction d with
  | zero =>
    intro S v vp L x va vk w _ _ hw ht hS hr hp hx
    obtain ⟨xs, hrow, hrc⟩ := hr
    obtain ⟨M, rfl, rfl, hM⟩ := RepC.nv _ _ hrc
    rw [List.length_map] at hrow
    have hll := M3.length_le_weight (M.map NV.x)
    rw [List.length_map] at hll
    have htx := txt_dt (M.map NV.x)
    show Calls _ _ _ _ (ShrP S (M3.push (M.map NV.x) x) w)
    obtain ⟨R, hR⟩ : ∃ R, Hid (R = M3.push (M.map NV.x) x) := ⟨_, rfl⟩
    rw [← hR.out]
    obtain ⟨a, cap, hv⟩ := hrow.slice
    subst hv
    obtain ⟨ap, cp, hvp⟩ := Row.slice hp
    subst hvp
    obtain ⟨k, n, ats, tx, ks⟩ := x
    obtain ⟨a1, e1, hva⟩ := hx.at_.slice
    obtain ⟨a2, e2, hvk⟩ := hx.kids.slice
    subst hva
    subst hvk
    simp only [Nd.text] at ht
    show Calls Tryz.prog 83 #[.slice a M.length cap, .slice ap 0 cp, .agg #[.int .i64 k, .string n, .slice a1 ats.length e1, .string tx, .slice a2 ks.length e2]] w _
    have h63 : 0 + M.length ≤ 9223372036854775807 := by omega
    have hby : (0 + M.length) * 88 ≤ 140737488355328 := by omega
    have h63' : M.length + 1 ≤ 9223372036854775807 := by omega
    have hby' : (M.length + 1) * 88 ≤ 140737488355328 := by omega
    have hones := cellsV_ones (fun b hb => (hM b hb).ok)
    obtain ⟨wo, rfl⟩ : ∃ wo : World, wo = w := ⟨_, rfl⟩
    have bx := Box.new wo 41 [.int .i64 k, .string n, .slice a1 ats.length e1, .string tx, .slice a2 ks.length e2]
    have hb0 : Below wo.heap.size wo (wo.alloc (.cells #[.int .i64 k, .string n, .slice a1 ats.length e1, .string tx, .slice a2 ks.length e2] 41)) := (Below.refl _ wo).alloc (Nat.le_refl _) _
    have hsz : wo.heap.size + 1 = (wo.alloc (.cells #[.int .i64 k, .string n, .slice a1 ats.length e1, .string tx, .slice a2 ks.length e2] 41)).heap.size := by simp
    have hrow0 : Row S (wo.alloc (.cells #[.int .i64 k, .string n, .slice a1 ats.length e1, .string tx, .slice a2 ks.length e2] 41)) 5 (.slice a M.length cap) M.length (cellsV M) := Row.keep hrow (fun b h => hb0.block b (hS b h))
    have hl0 : wo.heap.size ≤ (wo.alloc (.cells #[.int .i64 k, .string n, .slice a1 ats.length e1, .string tx, .slice a2 ks.length e2] 41)).heap.size := by omega
    have hnil : (wo.alloc (.cells #[.int .i64 k, .string n, .slice a1 ats.length e1, .string tx, .slice a2 ks.length e2] 41)).ownsRow wo.heap.size 41 5 (.slice none 0 0) 0 [] := World.ownsRow_nil _ _ _ _
    have hlt0 := Lib.hid (show wo.heap.size < (wo.alloc (.cells #[.int .i64 k, .string n, .slice a1 ats.length e1, .string tx, .slice a2 ks.length e2] 41)).heap.size from by rw [← hsz]; exact Nat.lt_succ_self _)
    clear hsz
    have hxr := Lib.hid hx
    clear hx hrc
    cases hk2 : (k == 2)
    · -- no text
      have hR2 : Hid (R = (M ++ [(⟨.mk k n ats tx ks, .slice a1 ats.length e1, .slice a2 ks.length e2⟩ : NV)]).map NV.x) := by
        show _ = _
        rw [hR.out, push_end (x := .mk k n ats tx ks) (by unfold M3.bareB M3.isText; show ((k == 2) && _) = false; rw [hk2]; rfl) (Or.inl hk2), List.map_append]
        rfl
      clear hR
      go_enter Tryz.func83, Tryz.ntmps83
      go_wp2_with (first
               | (at_builtin
                  refine wpList_spread (wo.alloc (.cells #[.int .i64 k, .string n, .slice a1 ats.length e1, .string tx, .slice a2 ks.length e2] 41)) 5 S rfl _ _ 25 41 rfl wo.heap.size Tryz.underlying25 infoN rfl (by decide) _ 0 [] rfl hnil _ M.length (cellsV M) rfl hrow0 hones h63 ?_ hl0 ?_
                  exact hby
                  intro u7 w2 hown2 hgrow2
                  have hb2 : Below wo.heap.size wo w2 := below_own hb0 hnil hgrow2 hl0 (Nat.le_refl _)
                  rw [Nat.zero_add, List.nil_append] at hown2
                  obtain ⟨a7, c7, e7⟩ := own_slice hown2
                  subst e7
                  have hz2 := hgrow2.size
                  have bx2 := bx.keep (w' := w2) (hgrow2.block wo.heap.size hlt0.out (fun e => nomatch e))
                  have p0 := bx2.cell (i := 0) rfl
                  have p1 := bx2.cell (i := 1) rfl
                  have p2 := bx2.cell (i := 2) rfl
                  have p3 := bx2.cell (i := 3) rfl
                  have p4 := bx2.cell (i := 4) rfl
                  have hzw : wo.heap.size ≤ w2.heap.size := Nat.le_trans hl0 hz2
                  skip)
               | (at_builtin; refine wpList_appK w2 [.int .i64 k, .string n, .slice a1 ats.length e1, .string tx, .slice a2 ks.length e2] 5 rfl _ _ 25 41 rfl wo.heap.size Tryz.underlying25 infoN rfl (by decide) _ M.length (cellsV M) rfl hown2 _ rfl rfl rfl (five_one _ _ _ _ _ _ _ _ _) h63' ?_ hzw ?_; exact hby'; intro g cq w3 hown3 hgrow3 hat3))
      have hb3 := below_own hb2 hown2 hgrow3 hzw (Nat.le_refl _)
      have hown4 : w3.ownsRow wo.heap.size 41 5 (.slice (some ⟨g, 0, none⟩) (M.length + 1) cq) (M ++ [(⟨.mk k n ats tx ks, .slice a1 ats.length e1, .slice a2 ks.length e2⟩ : NV)]).length (cellsV (M ++ [(⟨.mk k n ats tx ks, .slice a1 ats.length e1, .slice a2 ks.length e2⟩ : NV)])) := by
        rw [cellsV_snoc, List.length_append]; exact hown3
      have hres : Hid (RepN (fun b => S b ∨ (wo.heap.size ≤ b ∧ b < w3.heap.size)) w3 (.slice (some ⟨g, 0, none⟩) (M.length + 1) cq) R) := by
        show RepN _ _ _ _
        rw [hR2.out]
        exact ShrP.of_row hS hown4 hb3 (fun b hb => by
          rcases List.mem_append.1 hb with hb | hb
          · exact hM b hb
          · rw [List.mem_singleton] at hb
            subst hb
            exact hxr.out)
      clear hown3 hgrow3 hat3 hown4 hgrow2 hown2
      go_ret
      exact ⟨_, rfl, hres.out, hb3⟩
    · obtain rfl : k = 2 := by simpa using hk2
      have hisx : M3.isText (.mk 2 n ats tx ks) = true := rfl
      clear hk2
      rcases List.eq_nil_or_concat M with rfl | ⟨o, y, rfl⟩
      · -- the first one
        cases hte : tx.toList.isEmpty
        · have hR2 : Hid (R = (([] : List NV) ++ [(⟨.mk 2 n ats tx ks, .slice a1 ats.length e1, .slice a2 ks.length e2⟩ : NV)]).map NV.x) := by
            show _ = _
            rw [hR.out, push_end (x := .mk 2 n ats tx ks) (by unfold M3.bareB; rw [show M3.nilB (Nd.mk 2 n ats tx ks).text = false from hte, Bool.and_false]) (Or.inr (fun o y h => by simp at h))]
            rfl
          clear hR
          go_enter Tryz.func83, Tryz.ntmps83
          go_wp2_with (first
                   | (at_builtin
                      refine wpList_spread (wo.alloc (.cells #[.int .i64 2, .string n, .slice a1 ats.length e1, .string tx, .slice a2 ks.length e2] 41)) 5 S rfl _ _ 25 41 rfl wo.heap.size Tryz.underlying25 infoN rfl (by decide) _ 0 [] rfl hnil _ ([] : List NV).length (cellsV ([] : List NV)) rfl hrow0 hones h63 ?_ hl0 ?_
                      exact hby
                      intro u7 w2 hown2 hgrow2
                      have hb2 : Below wo.heap.size wo w2 := below_own hb0 hnil hgrow2 hl0 (Nat.le_refl _)
                      rw [Nat.zero_add, List.nil_append] at hown2
                      obtain ⟨a7, c7, e7⟩ := own_slice hown2
                      subst e7
                      have hz2 := hgrow2.size
                      have bx2 := bx.keep (w' := w2) (hgrow2.block wo.heap.size hlt0.out (fun e => nomatch e))
                      have p0 := bx2.cell (i := 0) rfl
                      have p1 := bx2.cell (i := 1) rfl
                      have p2 := bx2.cell (i := 2) rfl
                      have p3 := bx2.cell (i := 3) rfl
                      have p4 := bx2.cell (i := 4) rfl
                      have hzw : wo.heap.size ≤ w2.heap.size := Nat.le_trans hl0 hz2
                      skip)
                   | (at_builtin; refine wpList_appK w2 [.int .i64 2, .string n, .slice a1 ats.length e1, .string tx, .slice a2 ks.length e2] 5 rfl _ _ 25 41 rfl wo.heap.size Tryz.underlying25 infoN rfl (by decide) _ ([] : List NV).length (cellsV ([] : List NV)) rfl hown2 _ rfl rfl rfl (five_one _ _ _ _ _ _ _ _ _) h63' ?_ hzw ?_; exact hby'; intro g cq w3 hown3 hgrow3 hat3))
          have hb3 := below_own hb2 hown2 hgrow3 hzw (Nat.le_refl _)
          have hown4 : w3.ownsRow wo.heap.size 41 5 (.slice (some ⟨g, 0, none⟩) (([] : List NV).length + 1) cq) (([] : List NV) ++ [(⟨.mk 2 n ats tx ks, .slice a1 ats.length e1, .slice a2 ks.length e2⟩ : NV)]).length (cellsV (([] : List NV) ++ [(⟨.mk 2 n ats tx ks, .slice a1 ats.length e1, .slice a2 ks.length e2⟩ : NV)])) := by
            rw [cellsV_snoc, List.length_append]; exact hown3
          have hres : Hid (RepN (fun b => S b ∨ (wo.heap.size ≤ b ∧ b < w3.heap.size)) w3 (.slice (some ⟨g, 0, none⟩) (([] : List NV).length + 1) cq) R) := by
            show RepN _ _ _ _
            rw [hR2.out]
            exact ShrP.of_row hS hown4 hb3 (fun b hb => by
              rcases List.mem_append.1 hb with hb | hb
              · exact hM b hb
              · rw [List.mem_singleton] at hb
                subst hb
                exact hxr.out)
          clear hown3 hgrow3 hat3 hown4 hgrow2 hown2
          go_ret
          exact ⟨_, rfl, hres.out, hb3⟩
        · have hR2 : Hid (R = (([] : List NV)).map NV.x) := by
            show _ = _
            rw [hR.out, M3.push_bare (x := .mk 2 n ats tx ks) (by unfold M3.bareB; rw [hisx, show M3.nilB (Nd.mk 2 n ats tx ks).text = true from hte]; rfl)]
          clear hR
          go_enter Tryz.func83, Tryz.ntmps83
          go_wp2_with (first
                   | (at_builtin
                      refine wpList_spread (wo.alloc (.cells #[.int .i64 2, .string n, .slice a1 ats.length e1, .string tx, .slice a2 ks.length e2] 41)) 5 S rfl _ _ 25 41 rfl wo.heap.size Tryz.underlying25 infoN rfl (by decide) _ 0 [] rfl hnil _ ([] : List NV).length (cellsV ([] : List NV)) rfl hrow0 hones h63 ?_ hl0 ?_
                      exact hby
                      intro u7 w2 hown2 hgrow2
                      have hb2 : Below wo.heap.size wo w2 := below_own hb0 hnil hgrow2 hl0 (Nat.le_refl _)
                      rw [Nat.zero_add, List.nil_append] at hown2
                      obtain ⟨a7, c7, e7⟩ := own_slice hown2
                      subst e7
                      have hz2 := hgrow2.size
                      have bx2 := bx.keep (w' := w2) (hgrow2.block wo.heap.size hlt0.out (fun e => nomatch e))
                      have p0 := bx2.cell (i := 0) rfl
                      have p1 := bx2.cell (i := 1) rfl
                      have p2 := bx2.cell (i := 2) rfl
                      have p3 := bx2.cell (i := 3) rfl
                      have p4 := bx2.cell (i := 4) rfl
                      have hzw : wo.heap.size ≤ w2.heap.size := Nat.le_trans hl0 hz2
                      skip))
          have hres : Hid (RepN (fun b => S b ∨ (wo.heap.size ≤ b ∧ b < w2.heap.size)) w2 (.slice a7 0 c7) R) := by
            show RepN _ _ _ _
            rw [hR2.out]
            exact ShrP.of_row hS hown2 hb2 hM
          clear hgrow2 hown2
          go_ret
          exact ⟨_, rfl, hres.out, hb2⟩
      · -- behind others
        rw [List.concat_eq_append] at *
        have hol : (o ++ [y]).length = o.length + 1 := by simp
        rw [hol] at hrow0 h63 hby h63' hby' hll
        have hytx : y.x.text.size ≤ 1073741824 := by
          have h1 := txtN_mem (l := (o ++ [y]).map NV.x) (x := y.x) (by simp)
          omega
        have hA0 : (0 : Int) ≤ (o.length : Int) := by omega
        have hA1 : (o.length : Int) < (o.length : Int) + 1 := by omega
        have hA2 : ((o.length : Int) + 1 - 1) = (o.length : Int) := by omega
        have hol2 : ∀ w, (Builtin.len_ #[25] 3 #[.slice a (o ++ [y]).length cap]).run Tryz.prog w = .ok (.int .i64 ((o.length : Int) + 1)) w := fun w => by rw [hol]; rfl
        show Calls Tryz.prog 83 #[.slice a (o ++ [y]).length cap, _, _] _ _
        rw [hol]
        rw [hol] at hrow
        obtain ⟨⟨k2, n2, ats2, t2, ks2⟩, va2, vk2⟩ := y
        simp only [Nd.text] at hytx
        cases hky : (k2 == 2)
        · have hisy : M3.isText (.mk k2 n2 ats2 t2 ks2) = false := hky
          cases hte : tx.toList.isEmpty
          · have hR2 : Hid (R = ((o ++ [(⟨.mk k2 n2 ats2 t2 ks2, va2, vk2⟩ : NV)]) ++ [(⟨.mk 2 n ats tx ks, .slice a1 ats.length e1, .slice a2 ks.length e2⟩ : NV)]).map NV.x) := by
              show _ = _
              rw [hR.out, push_end (x := .mk 2 n ats tx ks) (by unfold M3.bareB; rw [show M3.nilB (Nd.mk 2 n ats tx ks).text = false from hte, Bool.and_false]) (Or.inr (fun o' y' h => by
                rw [List.map_append, List.map_cons, List.map_nil] at h
                have := (List.append_inj' h rfl).2
                cases this
                exact hisy))]
              simp only [List.map_append, List.map_cons, List.map_nil]
            clear hR
            go_enter Tryz.func83, Tryz.ntmps83
            go_wp2_with (first
                     | (at_builtin
                        refine wpList_spread (wo.alloc (.cells #[.int .i64 2, .string n, .slice a1 ats.length e1, .string tx, .slice a2 ks.length e2] 41)) 5 S rfl _ _ 25 41 rfl wo.heap.size Tryz.underlying25 infoN rfl (by decide) _ 0 [] rfl hnil _ (o.length + 1) (cellsV (o ++ [(⟨.mk k2 n2 ats2 t2 ks2, va2, vk2⟩ : NV)])) rfl hrow0 hones h63 ?_ hl0 ?_
                        exact hby
                        intro u7 w2 hown2 hgrow2
                        have hb2 : Below wo.heap.size wo w2 := below_own hb0 hnil hgrow2 hl0 (Nat.le_refl _)
                        rw [Nat.zero_add, List.nil_append] at hown2
                        obtain ⟨g7, c7, e7, hg7, hg7l⟩ := hown2.form (by omega)
                        subst e7
                        obtain ⟨o0, o3, f3⟩ := own_atV hown2 o.length (by simp)
                        rw [List.getElem_append_right (Nat.le_refl _)] at o0 o3
                        simp only [Nat.sub_self, List.getElem_cons_zero, Nd.kind, Nd.text] at o0 o3
                        have hcp2 := own_cap7 hown2
                        have hz2 := hgrow2.size
                        have bx2 := bx.keep (w' := w2) (hgrow2.block wo.heap.size hlt0.out (fun e => nomatch e))
                        have p0 := bx2.cell (i := 0) rfl
                        have p1 := bx2.cell (i := 1) rfl
                        have p2 := bx2.cell (i := 2) rfl
                        have p3 := bx2.cell (i := 3) rfl
                        have p4 := bx2.cell (i := 4) rfl
                        have hzw : wo.heap.size ≤ w2.heap.size := Nat.le_trans hl0 hz2
                        skip)
                     | (at_builtin; refine wpList_appK w2 [.int .i64 2, .string n, .slice a1 ats.length e1, .string tx, .slice a2 ks.length e2] 5 rfl _ _ 25 41 rfl wo.heap.size Tryz.underlying25 infoN rfl (by decide) _ (o.length + 1) (cellsV (o ++ [(⟨.mk k2 n2 ats2 t2 ks2, va2, vk2⟩ : NV)])) rfl hown2 _ rfl rfl rfl (five_one _ _ _ _ _ _ _ _ _) h63' ?_ hzw ?_; exact hby'; intro g cq w3 hown3 hgrow3 hat3))
            have hb3 := below_own hb2 hown2 hgrow3 hzw (Nat.le_refl _)
            have hown4 : w3.ownsRow wo.heap.size 41 5 (.slice (some ⟨g, 0, none⟩) ((o.length + 1) + 1) cq) ((o ++ [(⟨.mk k2 n2 ats2 t2 ks2, va2, vk2⟩ : NV)]) ++ [(⟨.mk 2 n ats tx ks, .slice a1 ats.length e1, .slice a2 ks.length e2⟩ : NV)]).length (cellsV ((o ++ [(⟨.mk k2 n2 ats2 t2 ks2, va2, vk2⟩ : NV)]) ++ [(⟨.mk 2 n ats tx ks, .slice a1 ats.length e1, .slice a2 ks.length e2⟩ : NV)])) := by
              rw [cellsV_snoc, List.length_append, hol]; exact hown3
            have hres : Hid (RepN (fun b => S b ∨ (wo.heap.size ≤ b ∧ b < w3.heap.size)) w3 (.slice (some ⟨g, 0, none⟩) ((o.length + 1) + 1) cq) R) := by
              show RepN _ _ _ _
              rw [hR2.out]
              exact ShrP.of_row hS hown4 hb3 (fun b hb => by
                rcases List.mem_append.1 hb with hb | hb
                · exact hM b hb
                · rw [List.mem_singleton] at hb
                  subst hb
                  exact hxr.out)
            clear hown3 hgrow3 hat3 hown4 hgrow2 hown2
            go_ret
            exact ⟨_, rfl, hres.out, hb3⟩
          · have hR2 : Hid (R = (o ++ [(⟨.mk k2 n2 ats2 t2 ks2, va2, vk2⟩ : NV)]).map NV.x) := by
              show _ = _
              rw [hR.out, M3.push_bare (x := .mk 2 n ats tx ks) (by unfold M3.bareB; rw [hisx, show M3.nilB (Nd.mk 2 n ats tx ks).text = true from hte]; rfl)]
            clear hR
            go_enter Tryz.func83, Tryz.ntmps83
            go_wp2_with (first
                     | (at_builtin
                        refine wpList_spread (wo.alloc (.cells #[.int .i64 2, .string n, .slice a1 ats.length e1, .string tx, .slice a2 ks.length e2] 41)) 5 S rfl _ _ 25 41 rfl wo.heap.size Tryz.underlying25 infoN rfl (by decide) _ 0 [] rfl hnil _ (o.length + 1) (cellsV (o ++ [(⟨.mk k2 n2 ats2 t2 ks2, va2, vk2⟩ : NV)])) rfl hrow0 hones h63 ?_ hl0 ?_
                        exact hby
                        intro u7 w2 hown2 hgrow2
                        have hb2 : Below wo.heap.size wo w2 := below_own hb0 hnil hgrow2 hl0 (Nat.le_refl _)
                        rw [Nat.zero_add, List.nil_append] at hown2
                        obtain ⟨g7, c7, e7, hg7, hg7l⟩ := hown2.form (by omega)
                        subst e7
                        obtain ⟨o0, o3, f3⟩ := own_atV hown2 o.length (by simp)
                        rw [List.getElem_append_right (Nat.le_refl _)] at o0 o3
                        simp only [Nat.sub_self, List.getElem_cons_zero, Nd.kind, Nd.text] at o0 o3
                        have hcp2 := own_cap7 hown2
                        have hz2 := hgrow2.size
                        have bx2 := bx.keep (w' := w2) (hgrow2.block wo.heap.size hlt0.out (fun e => nomatch e))
                        have p0 := bx2.cell (i := 0) rfl
                        have p1 := bx2.cell (i := 1) rfl
                        have p2 := bx2.cell (i := 2) rfl
                        have p3 := bx2.cell (i := 3) rfl
                        have p4 := bx2.cell (i := 4) rfl
                        have hzw : wo.heap.size ≤ w2.heap.size := Nat.le_trans hl0 hz2
                        skip))
            have hres : Hid (RepN (fun b => S b ∨ (wo.heap.size ≤ b ∧ b < w2.heap.size)) w2 (.slice (some ⟨g7, 0, none⟩) (o.length + 1) c7) R) := by
              show RepN _ _ _ _
              rw [hR2.out]
              exact ShrP.of_row hS (by rw [hol]; exact hown2) hb2 hM
            clear hgrow2 hown2
            go_ret
            exact ⟨_, rfl, hres.out, hb2⟩
        · obtain rfl : k2 = 2 := by simpa using hky
          have hR2 : Hid (R = (o ++ [NV.withText (⟨.mk 2 n2 ats2 t2 ks2, va2, vk2⟩ : NV) (M3.cat t2 tx)]).map NV.x) := by
            show _ = _
            rw [hR.out, List.map_append, List.map_cons, List.map_nil, push_cat hisx rfl, List.map_append]
            rfl
          clear hR
          have hq3 : ¬ (9223372036854775807 < t2.size + tx.size) := by omega
          go_enter Tryz.func83, Tryz.ntmps83
          go_wp2_with (first
                   | (at_builtin
                      refine wpList_spread (wo.alloc (.cells #[.int .i64 2, .string n, .slice a1 ats.length e1, .string tx, .slice a2 ks.length e2] 41)) 5 S rfl _ _ 25 41 rfl wo.heap.size Tryz.underlying25 infoN rfl (by decide) _ 0 [] rfl hnil _ (o.length + 1) (cellsV (o ++ [(⟨.mk 2 n2 ats2 t2 ks2, va2, vk2⟩ : NV)])) rfl hrow0 hones h63 ?_ hl0 ?_
                      exact hby
                      intro u7 w2 hown2 hgrow2
                      have hb2 : Below wo.heap.size wo w2 := below_own hb0 hnil hgrow2 hl0 (Nat.le_refl _)
                      rw [Nat.zero_add, List.nil_append] at hown2
                      obtain ⟨g7, c7, e7, hg7, hg7l⟩ := hown2.form (by omega)
                      subst e7
                      obtain ⟨o0, o3, f3⟩ := own_atV hown2 o.length (by simp)
                      rw [List.getElem_append_right (Nat.le_refl _)] at o0 o3
                      simp only [Nat.sub_self, List.getElem_cons_zero, Nd.kind, Nd.text] at o0 o3
                      have hcp2 := own_cap7 hown2
                      have hz2 := hgrow2.size
                      have bx2 := bx.keep (w' := w2) (hgrow2.block wo.heap.size hlt0.out (fun e => nomatch e))
                      have p0 := bx2.cell (i := 0) rfl
                      have p1 := bx2.cell (i := 1) rfl
                      have p2 := bx2.cell (i := 2) rfl
                      have p3 := bx2.cell (i := 3) rfl
                      have p4 := bx2.cell (i := 4) rfl
                      have hzw : wo.heap.size ≤ w2.heap.size := Nat.le_trans hl0 hz2
                      skip))
          go_still_tail 12, (by kernel_rfl)
          change wpList _ _ _ _ _ w2.drew
          go_wp2_with fail
          have hst := (hown2.stored (o.length * 5 + 3) (.string (t2 ++ tx))).1
          have hown3 := own_keep hst (w' := (w2.setCell ⟨g7, o.length * 5 + 3, none⟩ (.string (t2 ++ tx))).drew) (fun _ _ => rfl)
          rw [setText_cells _ _ _ _ rfl, ← cat_eq] at hown3
          have hb3 : Below wo.heap.size wo (w2.setCell ⟨g7, o.length * 5 + 3, none⟩ (.string (t2 ++ tx))).drew := (hb2.setCell (p := ⟨g7, o.length * 5 + 3, none⟩) hg7 _).drew
          have hb3' := hb3
          have hown4 : (w2.setCell ⟨g7, o.length * 5 + 3, none⟩ (.string (t2 ++ tx))).drew.ownsRow wo.heap.size 41 5 (.slice (some ⟨g7, 0, none⟩) (o.length + 1) c7) (o ++ [NV.withText (⟨.mk 2 n2 ats2 t2 ks2, va2, vk2⟩ : NV) (M3.cat t2 tx)]).length (cellsV (o ++ [NV.withText (⟨.mk 2 n2 ats2 t2 ks2, va2, vk2⟩ : NV) (M3.cat t2 tx)])) := by
            rw [List.length_append]; exact hown3
          have hres : Hid (RepN (fun b => S b ∨ (wo.heap.size ≤ b ∧ b < (w2.setCell ⟨g7, o.length * 5 + 3, none⟩ (.string (t2 ++ tx))).drew.heap.size)) (w2.setCell ⟨g7, o.length * 5 + 3, none⟩ (.string (t2 ++ tx))).drew (.slice (some ⟨g7, 0, none⟩) (o.length + 1) c7) R) := by
            show RepN _ _ _ _
            rw [hR2.out]
            exact ShrP.of_row hS hown4 hb3 (fun b hb => by
              rcases List.mem_append.1 hb with hb | hb
              · exact hM b (by simp [hb])
              · rw [List.mem_singleton] at hb
                subst hb
                have h := hM (⟨.mk 2 n2 ats2 t2 ks2, va2, vk2⟩ : NV) (by simp)
                exact ⟨h.1, h.2⟩)
          clear hst hown3 hown4 hown2 hgrow2
          go_ret
          exact ⟨_, rfl, hres.out, hb3'⟩
  | succ d ih =>
    intro S v vp L x va vk w hok hd hw ht hS hr hp hx
    obtain ⟨xs, hrow, hrc⟩ := hr
    obtain ⟨M, hML, rfl, hM⟩ := RepC.nv _ _ hrc
    rcases List.eq_nil_or_concat M with rfl | ⟨o, y, rfl⟩
    · have hML : [] = L := hML
      subst hML
      exact hok.elim
    rw [List.concat_eq_append] at *
    have hML : L = o.map NV.x ++ [y.x] := by rw [← hML, List.map_append]; rfl
    subst hML
    rw [M7.okD_snoc] at hok
    rw [M7.pathN_snoc, List.length_map] at hp
    have hpl := M7.pathN_len hok
    have hol : (o ++ [y]).length = o.length + 1 := by simp
    have hlL : (o.map NV.x ++ [y.x]).length = o.length + 1 := by simp
    rw [hlL] at hrow
    have hll := M3.length_le_weight (o.map NV.x ++ [y.x])
    rw [hlL] at hll
    have hwy := weight_le (l := o.map NV.x ++ [y.x]) (x := y.x) (by simp)
    have hdy := dt_mem (l := o.map NV.x ++ [y.x]) (x := y.x) (by simp)
    rw [M7.putN_snoc]
    obtain ⟨R, hR⟩ : ∃ R, Hid (R = o.map NV.x ++ [M7.wk y.x (M7.putN d x y.x.kids)]) := ⟨_, rfl⟩
    rw [← hR.out]
    have hih := Lib.hid (fun S v vp va vk w hS hr hp hx => ih S v vp y.x.kids x va vk w hok (by omega) (by omega) (by omega) hS hr hp hx)
    clear ih
    generalize M7.putN d x y.x.kids = l8 at *
    obtain ⟨a, cap, hv⟩ := hrow.slice
    subst hv
    obtain ⟨ap, cp, hvp⟩ := Row.slice hp
    subst hvp
    rw [List.length_cons, hpl] at hp ⊢
    generalize M7.pathN d y.x.kids = P at *
    obtain ⟨bp, offp, eap, hSbp, kp0⟩ := Ints.at_ hp 0 o.length rfl
    subst eap
    rw [Nat.add_zero] at kp0
    obtain ⟨-, hlp, hcp⟩ := Row.len hp
    have hrest : Ints S w (.slice (if cp = 1 then some ⟨bp, offp, none⟩ else some ⟨bp, offp + 1, none⟩) d (cp - 1)) P := by
      have h1 : Row S w 1 (.slice (some ⟨bp, offp, none⟩) (d + 1) cp) ((P.map fun k : Nat => Value.int .i64 (k : Int)).length + 1) (.int .i64 (o.length : Int) :: P.map fun k : Nat => Value.int .i64 (k : Int)) := by
        rw [List.length_map]; exact hp
      have h2 := h1.rest1
      rw [List.length_map] at h2
      exact h2
    obtain ⟨k, n, ats, tx, ks⟩ := x
    obtain ⟨a1, e1, hva⟩ := hx.at_.slice
    obtain ⟨a2, e2, hvk⟩ := hx.kids.slice
    subst hva
    subst hvk
    have hyv := hM y (by simp)
    obtain ⟨a4, e4, hyk⟩ := hyv.kids.slice
    show Calls Tryz.prog 83 #[.slice a (o.length + 1) cap, .slice (some ⟨bp, offp, none⟩) (d + 1) cp, .agg #[.int .i64 k, .string n, .slice a1 ats.length e1, .string tx, .slice a2 ks.length e2]] w _
    have h63 : 0 + (o.length + 1) ≤ 9223372036854775807 := by omega
    have hby : (0 + (o.length + 1)) * 88 ≤ 140737488355328 := by omega
    have hones := cellsV_ones (fun b hb => (hM b hb).ok)
    obtain ⟨wo, rfl⟩ : ∃ wo : World, wo = w := ⟨_, rfl⟩
    have bx := Box.new wo 41 [.int .i64 k, .string n, .slice a1 ats.length e1, .string tx, .slice a2 ks.length e2]
    have hb0 : Below wo.heap.size wo (wo.alloc (.cells #[.int .i64 k, .string n, .slice a1 ats.length e1, .string tx, .slice a2 ks.length e2] 41)) := (Below.refl _ wo).alloc (Nat.le_refl _) _
    have hsz : wo.heap.size + 1 = (wo.alloc (.cells #[.int .i64 k, .string n, .slice a1 ats.length e1, .string tx, .slice a2 ks.length e2] 41)).heap.size := by simp
    have hrow0 : Row S (wo.alloc (.cells #[.int .i64 k, .string n, .slice a1 ats.length e1, .string tx, .slice a2 ks.length e2] 41)) 5 (.slice a (o.length + 1) cap) (o.length + 1) (cellsV (o ++ [y])) := Row.keep hrow (fun b h => hb0.block b (hS b h))
    have hl0 : wo.heap.size ≤ (wo.alloc (.cells #[.int .i64 k, .string n, .slice a1 ats.length e1, .string tx, .slice a2 ks.length e2] 41)).heap.size := by omega
    have hnil : (wo.alloc (.cells #[.int .i64 k, .string n, .slice a1 ats.length e1, .string tx, .slice a2 ks.length e2] 41)).ownsRow wo.heap.size 41 5 (.slice none 0 0) 0 [] := World.ownsRow_nil _ _ _ _
    have hlt0 := Lib.hid (show wo.heap.size < (wo.alloc (.cells #[.int .i64 k, .string n, .slice a1 ats.length e1, .string tx, .slice a2 ks.length e2] 41)).heap.size from by rw [← hsz]; exact Nat.lt_succ_self _)
    clear hsz hrc
    have hxr := Lib.hid hx
    have hyr := Lib.hid hyv
    replace hrest := Lib.hid hrest
    replace hM := Lib.hid hM
    have hbp := hS bp hSbp
    have hA0 : (0 : Int) ≤ (o.length : Int) := by omega
    have hA1 : (o.length : Int) < (o.length : Int) + 1 := by omega
    have hd0 : (0 : Int) < (d : Int) + 1 := by omega
    have hdn0 : (0 : Int) ≤ (d : Int) := by omega
    clear hx hyv hML hlL hwy hdy hpl hlp hcp hll
    replace hok := Lib.hid hok
    replace hw := Lib.hid hw
    replace ht := Lib.hid ht
    replace hp := Lib.hid hp
    replace hrow := Lib.hid hrow
    go_enter Tryz.func83, Tryz.ntmps83
    go_wp2_with (first
             | (at_builtin
                refine wpList_spread (wo.alloc (.cells #[.int .i64 k, .string n, .slice a1 ats.length e1, .string tx, .slice a2 ks.length e2] 41)) 5 S rfl _ _ 25 41 rfl wo.heap.size Tryz.underlying25 infoN rfl (by decide) _ 0 [] rfl hnil _ (o.length + 1) (cellsV (o ++ [y])) rfl hrow0 hones h63 ?_ hl0 ?_
                exact hby
                intro u7 w2 hown2 hgrow2
                have hb2 : Below wo.heap.size wo w2 := below_own hb0 hnil hgrow2 hl0 (Nat.le_refl _)
                rw [Nat.zero_add, List.nil_append] at hown2
                obtain ⟨g7, c7, e7, hg7, hg7l⟩ := hown2.form (by omega)
                subst e7
                obtain ⟨o0, o4, f4⟩ := own_at7 hown2 o.length (by simp)
                rw [List.getElem_append_right (Nat.le_refl _)] at o0 o4
                simp only [Nat.sub_self, List.getElem_cons_zero] at o0 o4
                rw [hyk] at o4
                have kp1 := cell_of_below hb2 kp0 hbp
                have hcp2 := own_cap7 hown2
                have hz2 := hgrow2.size
                have bx2 := bx.keep (w' := w2) (hgrow2.block wo.heap.size hlt0.out (fun e => nomatch e))
                have p0 := bx2.cell (i := 0) rfl
                have p1 := bx2.cell (i := 1) rfl
                have p2 := bx2.cell (i := 2) rfl
                have p3 := bx2.cell (i := 3) rfl
                have p4 := bx2.cell (i := 4) rfl
                have hzw := Lib.hid (Nat.le_trans hl0 hz2)
                replace hown2 := Lib.hid hown2
                replace hgrow2 := Lib.hid hgrow2
                replace hb2 := Lib.hid hb2
                replace bx2 := Lib.hid bx2
                replace hcp2 := Lib.hid hcp2
                replace hg7 := Lib.hid hg7
                replace hg7l := Lib.hid hg7l
                clear hz2 hl0 hnil hrow0 hones hb0
                skip))
    have hcall : ∀ W, Below w2.heap.size w2 W → Calls Tryz.prog 83 #[.slice a4 y.x.kids.length e4, .slice (if cp = 1 then some ⟨bp, offp, none⟩ else some ⟨bp, offp + 1, none⟩) d (cp - 1), .agg #[.int .i64 k, .string n, .slice a1 ats.length e1, .string tx, .slice a2 ks.length e2]] W (ShrP S l8 W) := fun W hW => by
      have hbW := bt hb2.out hW
      have hyk2 := hyr.out.kids
      rw [hyk] at hyk2
      exact hih.out S _ _ _ _ W (fun b hb => Nat.lt_of_lt_of_le (hS b hb) hbW.size) (hyk2.below hS hbW) (hrest.out.below hS hbW) (hxr.out.below hS hbW)
    replace hcall := Lib.hid hcall
    have hat : ∀ W, Below w2.heap.size w2 W → W.cell? ⟨g7, o.length * 5 + 4, none⟩ = some (.slice a4 y.x.kids.length e4) ∧ W.frozen? ⟨g7, o.length * 5 + 4, none⟩ = false := fun W hW => by
      obtain ⟨-, q4, f4⟩ := own_at7 (own_below3 hown2.out hW) o.length (by simp)
      rw [List.getElem_append_right (Nat.le_refl _)] at q4
      simp only [Nat.sub_self, List.getElem_cons_zero] at q4
      rw [hyk] at q4
      exact ⟨q4, f4⟩
    replace hat := Lib.hid hat
    have hbox : ∀ W, Below w2.heap.size w2 W → W.cell? ⟨wo.heap.size, 0, none⟩ = some (.int .i64 k) ∧ W.cell? ⟨wo.heap.size, 1, none⟩ = some (.string n) ∧ W.cell? ⟨wo.heap.size, 2, none⟩ = some (.slice a1 ats.length e1) ∧ W.cell? ⟨wo.heap.size, 3, none⟩ = some (.string tx) ∧ W.cell? ⟨wo.heap.size, 4, none⟩ = some (.slice a2 ks.length e2) := fun W hW => by
      have hx := bx2.out.below hW bx2.out.lt
      exact ⟨hx.cell (i := 0) rfl, hx.cell (i := 1) rfl, hx.cell (i := 2) rfl, hx.cell (i := 3) rfl, hx.cell (i := 4) rfl⟩
    replace hbox := Lib.hid hbox
    have hlc := hcp2.out
    clear p0 p1 p2 p3 p4 o0 o4 f4 kp1
    refine wp_region_known (n := 14) ([some (Value.slice (some ⟨g7, 0, none⟩) (o.length + 1) c7), some (Value.int IntKind.i64 (o.length : Int)), some (Value.slice (some ⟨g7, 0, none⟩) (o.length + 1) c7), some (Value.int IntKind.i64 (o.length : Int)), some (.pointer (some ⟨g7, o.length * 5, none⟩)), some (.pointer (some ⟨g7, o.length * 5 + 4, none⟩)), some (.slice a4 y.x.kids.length e4), some (Value.slice (some ⟨bp, offp, none⟩) (d + 1) cp), some (.slice (if cp = 1 then some ⟨bp, offp, none⟩ else some ⟨bp, offp + 1, none⟩) d (cp - 1)), some (.agg #[.int .i64 k, .string n, .slice a1 ats.length e1, .string tx, .slice a2 ks.length e2]), none, some (.pointer (some ⟨g7, o.length * 5, none⟩)), some (.pointer (some ⟨g7, o.length * 5 + 4, none⟩)), none] : List (Option Value)) (fun t => ⟨#[Value.slice a (o.length + 1) cap, Value.slice (some ⟨bp, offp, none⟩) (d + 1) cp, Value.agg #[Value.int IntKind.i64 k, Value.string n, Value.slice a1 ats.length e1, Value.string tx, Value.slice a2 ks.length e2], undef, undef, Value.pointer (some ⟨wo.heap.size, 0, none⟩), Value.slice none 0 0, Value.slice (some ⟨g7, 0, none⟩) (o.length + 1) c7, Value.int IntKind.i64 (o.length : Int), undef, Value.slice none 0 0, Value.slice a (o.length + 1) cap, Value.slice (some ⟨g7, 0, none⟩) (o.length + 1) c7, Value.slice (some ⟨bp, offp, none⟩) (d + 1) cp, Value.int IntKind.i64 ((d : Int) + 1), Value.bool true, Value.slice (some ⟨bp, offp, none⟩) (d + 1) cp, Value.pointer (some ⟨bp, offp, none⟩), Value.int IntKind.i64 (o.length : Int), t 0, t 1, t 2, t 3, t 4, t 5, t 6, t 7, t 8, t 9, t 10, t 11, t 12, undef, undef, undef, undef, undef, undef, undef, undef, undef, undef, undef, undef, undef, undef, undef, undef, undef, undef, undef, undef, undef, undef, undef, undef, undef, undef, undef, undef, undef, undef, undef, undef, undef, undef, undef, undef, undef, undef, undef, undef, undef, undef, undef, undef, undef], []⟩) (fun f t W => StJ S w2 g7 (o.length * 5 + 4) 10 13 l8 f t W) (fun j => match j with | 0 => undef | 1 => undef | 2 => undef | 3 => undef | 4 => undef | 5 => undef | 6 => undef | 7 => undef | 8 => undef | 9 => undef | 10 => undef | 11 => undef | 12 => undef | _ => undef) (by kernel_rfl) (by rfl) (by rfl) (by kernel_rfl) rfl ?i0 ?step ?fin
    case i0 =>
      exact StJ.start _ _ _ _ _ _ _ _ (by decide)
    case step =>
      intro j0 hj0 f t W hfi hwt hk2 hI
      have h13 : j0 < 11 ∨ j0 = 13 → f 13 = false := fun hj => hI.notlast (by omega) hfi
      obtain rfl | rfl | rfl | rfl | rfl | rfl | rfl | rfl | rfl | rfl | rfl | rfl | rfl | rfl : j0 = 0 ∨ j0 = 1 ∨ j0 = 2 ∨ j0 = 3 ∨ j0 = 4 ∨ j0 = 5 ∨ j0 = 6 ∨ j0 = 7 ∨ j0 = 8 ∨ j0 = 9 ∨ j0 = 10 ∨ j0 = 11 ∨ j0 = 12 ∨ j0 = 13 := by omega
      · -- operation 0
        clear h13
        replace hI := Lib.hid hI
        replace hk2 := Lib.hid hk2
        clear hwt
        refine wpOp_step rfl (fun K hK => ?_)
        go_simp
        exact hK _ _ ⟨_, by simp [updT], hk2.out.at_ rfl, hI.out.same _ _ (by decide) (by decide)⟩
      · -- operation 1
        clear h13
        replace hI := Lib.hid hI
        replace hk2 := Lib.hid hk2
        clear hwt
        refine wpOp_step rfl (fun K hK => ?_)
        go_simp
        exact hK _ _ ⟨_, by simp [updT], hk2.out.at_ rfl, hI.out.same _ _ (by decide) (by decide)⟩
      · -- operation 2
        clear h13
        replace hI := Lib.hid hI
        replace hk2 := Lib.hid hk2
        clear hwt
        refine wpOp_step rfl (fun K hK => ?_)
        go_simp
        exact hK _ _ ⟨_, by simp [updT], hk2.out.at_ rfl, hI.out.same _ _ (by decide) (by decide)⟩
      · -- operation 3
        clear h13
        replace hI := Lib.hid hI
        replace hk2 := Lib.hid hk2
        clear hwt
        refine wpOp_step rfl (fun K hK => ?_)
        go_simp
        exact hK _ _ ⟨_, by simp [updT], hk2.out.at_ rfl, hI.out.same _ _ (by decide) (by decide)⟩
      · -- operation 4
        have e2 : t 2 = Value.slice (some ⟨g7, 0, none⟩) (o.length + 1) c7 := hk2 2 _ (hwt 2 (by kernel_rfl)) rfl
        have e3 : t 3 = Value.int IntKind.i64 (o.length : Int) := hk2 3 _ (hwt 3 (by kernel_rfl)) rfl
        clear h13
        replace hI := Lib.hid hI
        replace hk2 := Lib.hid hk2
        clear hwt
        refine wpOp_step rfl (fun K hK => ?_)
        go_simp
        exact hK _ _ ⟨_, by simp [updT, e2, e3], hk2.out.at_ rfl, hI.out.same _ _ (by decide) (by decide)⟩
      · -- operation 5
        have e4 : t 4 = .pointer (some ⟨g7, o.length * 5, none⟩) := hk2 4 _ (hwt 4 (by kernel_rfl)) rfl
        clear h13
        replace hI := Lib.hid hI
        replace hk2 := Lib.hid hk2
        clear hwt
        refine wpOp_step rfl (fun K hK => ?_)
        go_simp
        exact hK _ _ ⟨_, by simp [updT, e4], hk2.out.at_ rfl, hI.out.same _ _ (by decide) (by decide)⟩
      · -- operation 6
        have e5 : t 5 = .pointer (some ⟨g7, o.length * 5 + 4, none⟩) := hk2 5 _ (hwt 5 (by kernel_rfl)) rfl
        have hn := h13 (by decide)
        obtain ⟨hlow, hKn⟩ := hI.1 hn
        clear h13
        have s4 := (hat.out W hlow).1
        clear hKn hlow hn
        replace hk2 := Lib.hid hk2
        replace hI := Lib.hid hI
        clear hwt
        refine wpOp_step rfl (fun K hK => ?_)
        go_simp
        exact hK _ _ ⟨_, by simp [updT, e5], hk2.out.at_ rfl, hI.out.same _ _ (by decide) (by decide)⟩
      · -- operation 7
        clear h13
        replace hI := Lib.hid hI
        replace hk2 := Lib.hid hk2
        clear hwt
        refine wpOp_step rfl (fun K hK => ?_)
        go_simp
        exact hK _ _ ⟨_, by simp [updT], hk2.out.at_ rfl, hI.out.same _ _ (by decide) (by decide)⟩
      · -- operation 8
        have e7 : t 7 = Value.slice (some ⟨bp, offp, none⟩) (d + 1) cp := hk2 7 _ (hwt 7 (by kernel_rfl)) rfl
        clear h13
        replace hk2 := Lib.hid hk2
        replace hI := Lib.hid hI
        clear hwt
        refine wpOp_step rfl (fun K hK => ?_)
        go_simp
        rw [if_pos (by omega)]
        exact hK _ _ ⟨_, by simp [updT, Act.put, e7], hk2.out.at_ rfl, hI.out.same _ _ (by decide) (by decide)⟩
      · -- operation 9
        have hn := h13 (by decide)
        obtain ⟨hlow, hKn⟩ := hI.1 hn
        clear h13
        obtain ⟨s0, s1, s2, s3, s4⟩ := hbox.out W hlow
        clear hKn hlow hn
        replace hk2 := Lib.hid hk2
        replace hI := Lib.hid hI
        clear hwt
        refine wpOp_step rfl (fun K hK => ?_)
        go_simp
        exact hK _ _ ⟨_, by simp [updT, ], hk2.out.at_ rfl, hI.out.same _ _ (by decide) (by decide)⟩
      · -- operation 10
        have e6 : t 6 = .slice a4 y.x.kids.length e4 := hk2 6 _ (hwt 6 (by kernel_rfl)) rfl
        have e8 : t 8 = .slice (if cp = 1 then some ⟨bp, offp, none⟩ else some ⟨bp, offp + 1, none⟩) d (cp - 1) := hk2 8 _ (hwt 8 (by kernel_rfl)) rfl
        have e9 : t 9 = .agg #[.int .i64 k, .string n, .slice a1 ats.length e1, .string tx, .slice a2 ks.length e2] := hk2 9 _ (hwt 9 (by kernel_rfl)) rfl
        have hn := h13 (by decide)
        obtain ⟨hlow, hKn⟩ := hI.1 hn
        clear h13
        have hC := Lib.hid (hcall.out W hlow)
        replace hn := Lib.hid hn
        clear hKn hlow
        replace hk2 := Lib.hid hk2
        replace hI := Lib.hid hI
        clear hwt
        refine wpOp_step rfl (fun K hK => ?_)
        go_simp
        refine hC.out.mono ?_
        rintro e w5 ⟨v5, rfl, hr5, hb5⟩
        exact hK _ _ ⟨v5, by simp [updT, e6, e8, e9], hk2.out.free rfl, hI.out.call hn.out (by decide) hr5 hb5⟩
      · -- operation 11
        have e0 : t 0 = Value.slice (some ⟨g7, 0, none⟩) (o.length + 1) c7 := hk2 0 _ (hwt 0 (by kernel_rfl)) rfl
        have e1 : t 1 = Value.int IntKind.i64 (o.length : Int) := hk2 1 _ (hwt 1 (by kernel_rfl)) rfl
        clear h13
        replace hI := Lib.hid hI
        replace hk2 := Lib.hid hk2
        clear hwt
        refine wpOp_step rfl (fun K hK => ?_)
        go_simp
        exact hK _ _ ⟨_, by simp [updT, e0, e1], hk2.out.at_ rfl, hI.out.same _ _ (by decide) (by decide)⟩
      · -- operation 12
        have e11 : t 11 = .pointer (some ⟨g7, o.length * 5, none⟩) := hk2 11 _ (hwt 11 (by kernel_rfl)) rfl
        clear h13
        replace hI := Lib.hid hI
        replace hk2 := Lib.hid hk2
        clear hwt
        refine wpOp_step rfl (fun K hK => ?_)
        go_simp
        exact hK _ _ ⟨_, by simp [updT, e11], hk2.out.at_ rfl, hI.out.same _ _ (by decide) (by decide)⟩
      · -- operation 13
        have e12 : t 12 = .pointer (some ⟨g7, o.length * 5 + 4, none⟩) := hk2 12 _ (hwt 12 (by kernel_rfl)) rfl
        have hn := h13 (by decide)
        obtain ⟨hlow, hKn⟩ := hI.1 hn
        clear h13
        have hall : ∀ j, j < 11 → f j = true := fun j hj => by
          rcases (by omega : j = 0 ∨ j = 1 ∨ j = 2 ∨ j = 3 ∨ j = 4 ∨ j = 5 ∨ j = 6 ∨ j = 7 ∨ j = 8 ∨ j = 9 ∨ j = 10) with rfl | rfl | rfl | rfl | rfl | rfl | rfl | rfl | rfl | rfl | rfl <;> exact hwt _ (by kernel_rfl)
        obtain ⟨a8, c8, e8⟩ := (hKn (hall 10 (by decide))).slice
        have hput := hI.put hn (by decide) hall undef
        rw [e8] at hput
        obtain ⟨s4, f4⟩ := hat.out W hlow
        replace hput := Lib.hid hput
        clear hKn hall hlow hn
        replace hk2 := Lib.hid hk2
        replace hI := Lib.hid hI
        clear hwt
        refine wpOp_step rfl (fun K hK => ?_)
        go_simp
        exact hK _ _ ⟨undef, by simp [updT, e8, e12], hk2.out.free rfl, hput.out⟩
    case fin =>
      intro f t W hall hk2 hI
      obtain ⟨_, W0, hb0, hr8, rfl⟩ := hI.2 (hall 13 (by omega))
      clear hk2 hall hI
      obtain ⟨a8, c8, e8⟩ := hr8.slice
      rw [e8] at hr8 ⊢
      have hownW := own_below3 hown2.out hb0
      have hst := (hownW.stored (o.length * 5 + 4) (.slice a8 l8.length c8)).1
      rw [setKids7 o y _ l8 o.length rfl] at hst
      have hbW := (bt hb2.out hb0).setCell (p := ⟨g7, o.length * 5 + 4, none⟩) hg7.out (.slice a8 l8.length c8)
      have hb0z := hb0.size
      have hsW : (W0.setCell ⟨g7, o.length * 5 + 4, none⟩ (.slice a8 l8.length c8)).heap.size = W0.heap.size := by simp [World.setCell]
      have hg1 := hg7.out
      have hg2 := hg7l.out
      have hk8 : RepN (fun b => S b ∨ (wo.heap.size ≤ b ∧ b < (W0.setCell ⟨g7, o.length * 5 + 4, none⟩ (.slice a8 l8.length c8)).heap.size)) (W0.setCell ⟨g7, o.length * 5 + 4, none⟩ (.slice a8 l8.length c8)) (.slice a8 l8.length c8) l8 := by
        refine (hr8.keep (fun c hc => Below.heap_setCell W0 _ _ c ?_)).mono (fun c hc => ?_)
        · show c ≠ g7
          rcases hc with hc | hc
          · have := hS c hc
            omega
          · omega
        · rcases hc with hc | hc
          · exact Or.inl hc
          · exact Or.inr ⟨by have := hzw.out; omega, by rw [hsW]; exact hc.2⟩
      obtain ⟨W, hW⟩ : ∃ W, W0.setCell ⟨g7, o.length * 5 + 4, none⟩ (.slice a8 l8.length c8) = W := ⟨_, rfl⟩
      rw [hW] at hbW hk8 hst ⊢
      have hres : Hid (RepN (fun b => S b ∨ (wo.heap.size ≤ b ∧ b < W.heap.size)) W (.slice (some ⟨g7, 0, none⟩) (o.length + 1) c7) R) := by
        show RepN _ _ _ _
        have hRe : R = (o ++ [(⟨M7.wk y.x l8, y.va, .slice a8 l8.length c8⟩ : NV)]).map NV.x := by
          rw [hR.out, List.map_append]; rfl
        rw [hRe]
        refine ⟨_, by rw [List.length_map, List.length_append]; exact Row.own hst (fun g hg => Or.inr (hst.lt g hg)), RepC.of_nv (fun b hb' => ?_)⟩
        rcases List.mem_append.1 hb' with hb' | hb'
        · exact ((hM.out b (by simp [hb'])).below hS hbW).mono (fun c hc => Or.inl hc)
        · rw [List.mem_singleton] at hb'
          subst hb'
          have h := ((hyr.out).below hS hbW).mono (S' := fun b => S b ∨ (wo.heap.size ≤ b ∧ b < W.heap.size)) (fun c hc => Or.inl hc)
          obtain ⟨⟨k2, n2, ats2, t2, ks2⟩, va2, vk2⟩ := y
          exact ⟨h.1, hk8⟩
      replace hbW := Lib.hid hbW
      clear hW hst hk8 hr8 hownW hb0 hb0z hsW hg1 hg2
      try dsimp only
      go_wp2_with fail
      go_ret
      exact ⟨_, rfl, hres.out, hbW.out⟩
end Go.Proofs.YteefodibpjgicaaGreat

namespace Go.Proofs.YteefodibpjgicaaGreat
open Go.RowKit Go.Maps
def BS (F : Nat → Prop) (w : World) (g mb : Nat) (s : M7.St) (q : Nat) : Prop := ∃ vo vt pt fs tx n D, Bld F w g mb vo vt pt fs tx n D ∧ BInv fs tx n D s q
def BStep (F : Nat → Prop) (w : World) (g mb : Nat) (s : M7.St) (q : Nat) (e : Ending) (w' : World) : Prop := e = .returned (.tuple #[]) ∧ BS (grw F w w') w' g mb s q ∧ Out F w w'
def FitT (t : Tok) : Prop := t.name.size ≤ 1048576 ∧ t.text.size ≤ 1048576 ∧ t.attrs.length ≤ 500000
def tokQ (t : Tok) : Nat := 1 + t.attrs.length + t.text.size
abbrev Tok.val (t : Tok) (va : Value) : Value := .agg #[.int .i64 t.kind, .string t.name, va, .string t.text]
set_option maxHeartbeats 4000000 in
set_option maxRecDepth 100000 in
theorem bBegun (S : Nat → Prop) (nm : ByteArray) (ats : List Att) (va vk : Value) (w : World) (ha : Row S w 2 va ats.length (cellsA ats)) (hS : ∀ b, S b → b < w.heap.size) (hvk : ∃ a n c, vk = .slice a n c) (hl : ats.length ≤ 1000000) :
    Calls Tryz.prog 212 #[.string nm, va, vk] w fun e w' => ∃ va', e = .returned (.agg #[.int .i64 1, .string nm, va', .string ⟨#[]⟩, vk]) ∧ w'.ownsRow w.heap.size 43 2 va' ats.length (cellsA ats) ∧ Below w.heap.size w w' := by
  obtain ⟨ak, nk, ck, rfl⟩ := hvk
  obtain ⟨aa, ca, rfl⟩ := ha.slice
  have bz := Box.new w 41 [.int .i64 0, .string ⟨#[]⟩, .slice none 0 0, .string ⟨#[]⟩, .slice none 0 0]
  have hb0 : Below w.heap.size w (w.alloc (.cells #[.int .i64 0, .string ⟨#[]⟩, .slice none 0 0, .string ⟨#[]⟩, .slice none 0 0] 41)) := (Below.refl _ w).alloc (Nat.le_refl _) _
  have hs0 : (w.alloc (.cells #[.int .i64 0, .string ⟨#[]⟩, .slice none 0 0, .string ⟨#[]⟩, .slice none 0 0] 41)).heap.size = w.heap.size + 1 := by simp
  change Box (w.alloc (.cells #[.int .i64 0, .string ⟨#[]⟩, .slice none 0 0, .string ⟨#[]⟩, .slice none 0 0] 41)) _ _ _ at bz
  have ha0 := ha.keep (fun b hb => hb0.block b (hS b hb))
  replace bz := Lib.hid bz
  go_enter Tryz.func212, Tryz.ntmps212
  go_wp2_with (at_builtin
               refine wpList_spread _ 2 S rfl _ _ 39 43 rfl (w.heap.size + 1) Tryz.underlying39 infoA rfl (by omega) (.slice none 0 0) 0 [] rfl (World.ownsRow_nil _ _ _ _) _ ats.length (cellsA ats) rfl ha0 (cellsA_one _) (by omega) (by omega) (by omega) ?_
               intro v1 w1 hown1 hgrow1
               obtain ⟨a3, cap3, rfl⟩ := own_sliceW hown1
               have bz1 := bz.out.keep (hgrow1.block w.heap.size (by omega) (by simp [Value.ownBlock]))
               have q0 := bz1.cell (i := 0) rfl
               have q1 := bz1.cell (i := 1) rfl
               have q2 := bz1.cell (i := 2) rfl
               have q3 := bz1.cell (i := 3) rfl
               have q4 := bz1.cell (i := 4) rfl
               have fz := bz1.free)
  have bz2 := boxS5 bz1 (.int .i64 1) (.string nm) (.slice a3 ats.length cap3) (.string ⟨#[]⟩) (.slice ak nk ck)
  have hfar := farS5 w1 w.heap.size (.int .i64 1) (.string nm) (.slice a3 ats.length cap3) (.string ⟨#[]⟩) (.slice ak nk ck)
  obtain ⟨w2, hw2⟩ : ∃ W, (((((w1.setCell ⟨w.heap.size, 0, none⟩ (.int .i64 1)).setCell ⟨w.heap.size, 1, none⟩ (.string nm)).setCell ⟨w.heap.size, 2, none⟩ (.slice a3 ats.length cap3)).setCell ⟨w.heap.size, 3, none⟩ (.string ⟨#[]⟩)).setCell ⟨w.heap.size, 4, none⟩ (.slice ak nk ck)) = W := ⟨_, rfl⟩
  rw [hw2] at bz2 hfar ⊢
  clear hw2 q0 q1 q2 q3 q4 fz
  have q0 := bz2.cell (i := 0) rfl
  have q1 := bz2.cell (i := 1) rfl
  have q2 := bz2.cell (i := 2) rfl
  have q3 := bz2.cell (i := 3) rfl
  have q4 := bz2.cell (i := 4) rfl
  have hown2 : w2.ownsRow w.heap.size 43 2 (.slice a3 ats.length cap3) ats.length (cellsA ats) := by
    have e : (0 : Nat) + ats.length = ats.length := Nat.zero_add _
    rw [e, List.nil_append] at hown1
    refine own_base (own_keepW hown1 (fun c hc => hfar.block c ?_)) (fun c hc => ?_)
    · have := (hown1.lt c hc).1; omega
    · have := (hown1.lt c hc).1; omega
  have hz1 := hgrow1.size
  refine bodyPost_ret (v := .agg #[.int .i64 1, .string nm, .slice a3 ats.length cap3, .string ⟨#[]⟩, .slice ak nk ck]) (by simp [results, Tryz.results212, go_sem, q0, q1, q2, q3, q4]) rfl ⟨_, rfl, hown2, ?_⟩
  exact ⟨hfar.os.trans (hgrow1.os.trans hb0.os), hfar.tape.trans (hgrow1.tape.trans hb0.tape), hfar.output.trans (hgrow1.output.trans hb0.output), by have := hfar.size; omega, fun b hb => (hfar.block b (by omega)).trans ((hgrow1.block b (by omega) (by simp [Value.ownBlock])).trans (hb0.block b hb))⟩
theorem remark_weight (t : Tok) : M3.weight [M7.coT t] ≤ tokQ t := by
  rw [M3.weight_cons, M3.weight_nil]
  show 1 + 0 + M3.weight [] + 0 ≤ _
  rw [M3.weight_nil]; unfold tokQ; omega
set_option maxHeartbeats 4000000 in
set_option maxRecDepth 100000 in
theorem bRemark {F : Nat → Prop} {w : World} {g mb q : Nat} {s : M7.St} {t : Tok} {va : Value} (h : BS F w g mb s q) (hq : q ≤ 400000) (hva : ∃ a n c, va = .slice a n c) :
    Calls Tryz.prog 216 #[.pointer (some ⟨g, 0, none⟩), t.val va] w (BStep F w g mb ⟨M7.putN s.d (M7.coT t) s.L, s.d⟩ (q + tokQ t)) := by
  obtain ⟨av, nv, cv, rfl⟩ := hva
  obtain ⟨vo, vt, pt, fs, tx, n, D, hB, hI⟩ := h
  obtain ⟨A, f, rfl⟩ := hI.snoc
  have hkl := hI.kids_le f (by simp)
  have hfs := hI.fsq
  simp at hfs
  have hb0 : Below w.heap.size w (w.alloc (.cells #[.int .i64 t.kind, .string t.name, .slice av nv cv, .string t.text] 87)) := (Below.refl _ w).alloc (Nat.le_refl _) _
  have hC := Lib.hid (bAdd (x := M7.coT t) (va := .slice none 0 0) (vk := .slice none 0 0) (hB.below hb0) (by omega) (by omega) ⟨Row.nil _ _ _, RepN.nil _ _⟩)
  replace hI := Lib.hid hI
  have hlt := hB.lt
  replace hlt := Lib.hid hlt
  replace hb0 := Lib.hid hb0
  clear hB
  go_enter Tryz.func216, Tryz.ntmps216
  go_wp2_with fail
  refine hC.out.mono ?_
  rintro e w1 ⟨rfl, vt1, pt1, f1, hx, hn, s1⟩
  have s2 := s1.start hb0.out hlt.out
  have hI2 := hI.out.add hx hn (by rfl) (remark_weight t) (by unfold tokQ; omega)
  replace s2 := Lib.hid s2
  replace hI2 := Lib.hid hI2
  clear s1 hx hn
  go_wp2_with fail
  go_end0
  exact ⟨rfl, ⟨_, _, _, _, _, _, _, s2.out.1, hI2.out⟩, s2.out.2.1⟩
set_option maxHeartbeats 4000000 in
set_option maxRecDepth 100000 in
theorem bChars {F : Nat → Prop} {w : World} {g mb q : Nat} {s : M7.St} {t : Tok} {va : Value} (h : BS F w g mb s q) (hq : q ≤ 400000) (ht : FitT t) (hva : ∃ a n c, va = .slice a n c) :
    Calls Tryz.prog 215 #[.pointer (some ⟨g, 0, none⟩), t.val va] w (BStep F w g mb ⟨M7.putN s.d (M7.txT t) s.L, s.d⟩ (q + tokQ t)) := by
  obtain ⟨av, nv, cv, rfl⟩ := hva
  obtain ⟨vo, vt, pt, fs, tx, n, D, hB, hI⟩ := h
  have htq := hI.tq
  have hts := ht.2.1
  have hb0 : Below w.heap.size w (w.alloc (.cells #[.int .i64 t.kind, .string t.name, .slice av nv cv, .string t.text] 87)).drew := ((Below.refl _ w).alloc (Nat.le_refl _) _).drew
  have hB0 := hB.below hb0
  have hC := Lib.hid (bxWrite g _ _ _ _ tx t.text _ hB0.box hB0.ptr hB0.text hB0.text_ne (by omega))
  replace hI := Lib.hid hI
  have hlt := hB.lt
  replace hlt := Lib.hid hlt
  replace hb0 := Lib.hid hb0
  replace hB0 := Lib.hid hB0
  clear hB
  go_enter Tryz.func215, Tryz.ntmps215
  go_wp2_with fail
  go_region_law
    (first
      | (go_simp; go_at_call 106; refine hC.out.mono ?_; rintro e w1 ⟨rfl, v', hbx, htx, hat, hT⟩; have s1 := hB0.out.txt hbx (.inr rfl) htx hat hT; replace s1 := Lib.hid s1; clear hbx htx hat hT))
  all_goals
    have s2 := BSt.start hb0.out hlt.out s1.out
    have hI2 := hI.out.chars (t := t) (c := tokQ t) (by unfold tokQ; omega)
    replace s2 := Lib.hid s2
    replace hI2 := Lib.hid hI2
    clear s1
    go_wp2_with fail
    go_end0
    exact ⟨rfl, ⟨_, _, _, _, _, _, _, s2.out.1, hI2.out⟩, s2.out.2.1⟩
end Go.Proofs.YteefodibpjgicaaGreat

namespace Go.Proofs.YteefodibpjgicaaGreat
open Go.RowKit Go.Maps
def lenOf (w : World) (g : Nat) : Nat := match w.cell? ⟨g, 0, none⟩ with | some (.slice _ n _) => n | _ => 0
theorem lenOf_eq {w : World} {g n cap : Nat} {a : Option Addr} (h : w.cell? ⟨g, 0, none⟩ = some (.slice a n cap)) : lenOf w g = n := by unfold lenOf; rw [h]
structure Shutting (F : Nat → Prop) (w : World) (g mb : Nat) (s : M7.St) (o : List ByteArray) (q : Nat) (W : World) (vo vt pt : Value) (fs : List FV) (tx : List UInt8) (n : Nat) (D : DataW Unit) (d : Nat) : Prop where
  bld : Bld (grw F w W) W g mb vo vt pt fs tx n D
  inv : BInv fs tx n D ⟨s.L, d⟩ q
  out : Out F w W
  pre : ∃ p, o = namesW fs ++ p
theorem Shutting.next {F : Nat → Prop} {w W W' : World} {g mb : Nat} {s : M7.St} {o : List ByteArray} {q : Nat} {vo vt pt vo' vt' pt' : Value} {A : List FV} {p f p' : FV} {tx : List UInt8} {n n' : Nat} {D : DataW Unit} {d : Nat} (h : Shutting F w g mb s o q W vo vt pt ((A ++ [p]) ++ [f]) tx n D d)
    (hx : p'.x = M7.wk p.x (p.x.kids ++ [M7.wk f.x (f.x.kids ++ M7.endK tx)])) (hn : p'.nx = p.nx) (hn' : n' ≤ n + 1) (hs : BSt (grw F w W) W g mb vo vt ((A ++ [p]) ++ [f]) W' vo' vt' pt' (A ++ [p']) [] n' (shutD f D)) : Shutting F w g mb s o q W' vo' vt' pt' (A ++ [p']) [] n' (shutD f D) (d - 1) := by
  obtain ⟨h1, h2⟩ := h.inv.shut h.bld.map.isMap hx hn hn'
  obtain ⟨pp, hp⟩ := h.pre
  exact ⟨hs.1.grw2 h.out.size hs.2.1.size, h1, h.out.trans hs.2.1, ⟨f.x.name :: pp, by rw [hp, h2]; simp⟩⟩
theorem Shutting.bounds {F : Nat → Prop} {w W : World} {g mb : Nat} {s : M7.St} {o : List ByteArray} {q : Nat} {vo vt pt : Value} {A : List FV} {p f : FV} {tx : List UInt8} {n : Nat} {D : DataW Unit} {d : Nat} (h : Shutting F w g mb s o q W vo vt pt ((A ++ [p]) ++ [f]) tx n D d) (hq : q ≤ 400000) :
    A.length ≤ 900000 ∧ f.x.kids.length ≤ 900000 ∧ p.x.kids.length ≤ 900000 ∧ f.x.name.size ≤ 1073741824 ∧ f.nx ≤ 1000000 ∧ n ≤ 1000000 := by
  have h1 := h.inv.fsq
  have h2 := h.inv.kids_le f (by simp)
  have h3 := h.inv.kids_le p (by simp)
  have h4 := (h.inv.el A.length f h.inv.at_last).2.2
  have h5 := h.inv.nxt A.length f h.inv.at_last
  have h6 := M7.plc_le (namesW ((A ++ [p]) ++ [f])) f.x.name A.length
  have h7 := h.inv.nq
  simp at h1 h7
  exact ⟨by omega, by omega, by omega, by omega, by omega, by omega⟩
theorem two_of {fs : List FV} (h : 2 ≤ fs.length) : ∃ A p f, fs = (A ++ [p]) ++ [f] := by
  rcases List.eq_nil_or_concat fs with rfl | ⟨B, f, rfl⟩
  · simp at h
  · rcases List.eq_nil_or_concat B with rfl | ⟨A, p, rfl⟩
    · simp at h
    · exact ⟨A, p, f, by simp⟩
set_option maxHeartbeats 8000000 in
set_option maxRecDepth 100000 in
theorem bEnd {F : Nat → Prop} {w : World} {g mb q : Nat} {s : M7.St} {t : Tok} {va : Value} (h : BS F w g mb s q) (hq : q ≤ 400000) (ht : FitT t) (hva : ∃ a n c, va = .slice a n c) :
    Calls Tryz.prog 214 #[.pointer (some ⟨g, 0, none⟩), t.val va] w (BStep F w g mb (match M7.endAt (M7.openN s.d s.L) t.name s.d with | some i => ⟨s.L, i⟩ | none => s) q) := by
  obtain ⟨av, nv, cv, rfl⟩ := hva
  obtain ⟨vo, vt, pt, fs, tx, n, D, hB, hI⟩ := h
  have hnames := hI.names
  rw [hnames, M7.plc_end]
  obtain ⟨P, hP⟩ : ∃ P, P = M7.plc (namesW fs) t.name s.d := ⟨_, rfl⟩
  obtain ⟨hm1, hm2⟩ := hI.map t.name
  rw [← hP] at hm1 hm2 ⊢
  generalize hS : (match (if P = 0 then (none : Option Nat) else some (P - 1)) with | some i => (⟨s.L, i⟩ : M7.St) | none => s) = s'
  replace hS := Lib.hid hS
  have hPle : P ≤ s.d := by rw [hP]; exact M7.plc_le _ _ _
  have hlen := hI.len
  have hfsq := hI.fsq
  have hts := ht.1
  have bz := Box.new w 87 [.int .i64 t.kind, .string t.name, .slice av nv cv, .string t.text]
  have hb0 : Below w.heap.size w (w.alloc (.cells #[.int .i64 t.kind, .string t.name, .slice av nv cv, .string t.text] 87)).drew := ((Below.refl _ w).alloc (Nat.le_refl _) _).drew
  change Box (w.alloc (.cells #[.int .i64 t.kind, .string t.name, .slice av nv cv, .string t.text] 87)).drew _ _ _ at bz
  have hB0 := hB.below hb0
  have hkey : keyOf Tryz.prog 9 (.string t.name) = some (keyN t.name) := WideMaps.keyOf_string_mk Tryz.underlying9 (s := t.name) (by unfold maxLen; omega)
  have hrun := look_ok_int (P := Tryz.prog) hB0.map keySS Tryz.underlying191 Tryz.underlying3 (Tryz.zeroValue3 _) hkey hm2
  rw [hm1] at hrun
  have k3 := hB0.box.cell (i := 3) rfl
  have z1 := bz.cell (i := 1) rfl
  have hsh : Shutting F w g mb s (namesW fs) q (w.alloc (.cells #[.int .i64 t.kind, .string t.name, .slice av nv cv, .string t.text] 87)).drew vo vt pt fs tx n D s.d :=
    ⟨hB.grow hb0, hI, ⟨hb0.os, hb0.tape, hb0.output, hb0.size, fun b hb _ => hb0.block b hb⟩, ⟨[], by simp⟩⟩
  replace hsh := Lib.hid hsh
  replace hI := Lib.hid hI
  replace hB0 := Lib.hid hB0
  replace hP := Lib.hid hP
  replace bz := Lib.hid bz
  clear hB hnames hm1 hm2
  go_enter Tryz.func214, Tryz.ntmps214
  go_wp2_with fail
  go_region
  clear hrun k3 z1
  obtain ⟨w0, hw0⟩ : ∃ W, (w.alloc (.cells #[.int .i64 t.kind, .string t.name, .slice av nv cv, .string t.text] 87)).drew = W := ⟨_, rfl⟩
  rw [hw0] at hsh ⊢
  clear hb0 bz hB0
  by_cases h0 : P = 0
  · have hd0 : (!decide (P = 0)) = false := by simp [h0]
    have hs' : s' = s := by rw [← hS.out, if_pos h0]
    rw [hd0]
    go_wp2_with fail
    go_loopw [16] (fun u16 wr => wr = w0) (fun u16 wr => 0)
    case atStart => exact rfl
    case round =>
      subst hrel
      go_wp2_with fail
      go_end0
      rw [hs']
      exact ⟨rfl, ⟨_, _, _, _, _, _, _, hsh.out.bld, hsh.out.inv⟩, hsh.out.out⟩
  · have hd0 : (!decide (P = 0)) = true := by simp [h0]
    have hs' : s' = ⟨s.L, P - 1⟩ := by rw [← hS.out, if_neg h0]
    rw [hd0]
    have h1P : (1 : Int) ≤ (P : Int) := by omega
    go_wp2_with fail
    go_loopw [16] (fun u16 wr => ∃ vo vt pt fs' tx n D d, Shutting F w g mb s (namesW fs) q wr vo vt pt fs' tx n D d ∧ P ≤ fs'.length) (fun u16 wr => lenOf wr g)
    case atStart => exact ⟨_, _, _, _, _, _, _, _, hsh.out, by omega⟩
    case round =>
      obtain ⟨vo1, vt1, pt1, fs1, tx1, n1, D1, d1, hk, hle⟩ := hrel
      obtain ⟨go, cap, hvo, hcl, hcm, -⟩ := hk.bld.open_slice hk.inv.ne
      have k0 := hk.bld.box.cell (i := 0) rfl
      rw [hvo] at k0
      by_cases hlt : P < fs1.length
      · obtain ⟨A, p, f, rfl⟩ := two_of (fs := fs1) (by omega)
        obtain ⟨b1, b2, b3, b4, b5, b6⟩ := hk.bounds hq
        have hC := Lib.hid (bShut hk.bld b1 b2 b3 b4 b5 b6)
        have hlI : (P : Int) < (A.length : Int) + 2 := by simp at hlt; omega
        have hlD : decide ((P : Int) < (A.length : Int) + 2) = true := decide_eq_true hlI
        replace hk := Lib.hid hk
        go_wp2_with fail
        refine hC.out.mono ?_
        rintro e w1 ⟨rfl, vo2, vt2, pt2, p', n', hx, hn, hn', hst⟩
        have hk2 := hk.out.next hx hn hn' hst
        have hl2 : lenOf w1 g < lenOf wr g := by
          obtain ⟨go2, cap2, hvo2, _⟩ := hk2.bld.open_slice (by simp)
          have k02 := hk2.bld.box.cell (i := 0) rfl
          rw [hvo2] at k02
          rw [lenOf_eq k02, lenOf_eq k0]
          simp
        replace hk2 := Lib.hid hk2
        clear hst hx hn hk k0
        go_wp2_with fail
        go_roundw
        case rel => exact ⟨_, _, _, _, _, _, _, _, hk2.out, by simp at hlt ⊢; omega⟩
        case measure => exact hl2
      · have hlI : ¬ ((P : Int) < ((fs1.length : Nat) : Int)) := by omega
        have hld := hk.inv.len
        have he : (⟨s.L, d1⟩ : M7.St) = s' := by
          rw [hs']
          congr 1
          show d1 = P - 1
          have : d1 + 1 = fs1.length := hld
          omega
        have hf : BStep F w g mb s' q (.returned (.tuple #[])) wr := ⟨rfl, ⟨_, _, _, _, _, _, _, hk.bld, he ▸ hk.inv⟩, hk.out⟩
        replace hf := Lib.hid hf
        clear hk
        go_wp2_with fail
        go_end0
        have hg := hf.out
        rw [hs'] at hg
        exact hg
end Go.Proofs.YteefodibpjgicaaGreat

namespace Go.Proofs.YteefodibpjgicaaGreat
theorem waits_none {md : Region.Mode} {ops : Array Oper} {i j : Nat} (h : ops.size ≤ i) : Region.waitsFor md ops i j = false := by
  unfold Region.waitsFor
  rw [Array.getElem?_eq_none h]
theorem wp_region_knownC {id n : Nat} {P : Program} {ops : Array Oper} {Q : Exit → Act → World → Prop} {a : Act} {w : World} (Vs : List (Option Value)) (A : (Nat → Value) → Act) (I : (Nat → Bool) → (Nat → Value) → World → Prop) (t0 : Nat → Value)
    (hm : P.follows .mixedOrders = true) (hn : ops.size = n) (hl : Vs.length = n) (hord : ordB .any ops = true) (ha : a = A t0) (h0 : I (fun i => decide (n ≤ i)) t0 w.drew)
    (hstep : ∀ i, i < n → ∀ (f : Nat → Bool) (t : Nat → Value) (W : World), f i = false → (∀ j, Region.waitsFor .any ops i j = true → f j = true) → (∀ i j, Region.waitsFor .any ops i j = true → f i = true → f j = true) → Kn Vs f t → I f t W →
      wpOp P ops Q i (fun a' W' => ∃ v, a' = A (updT t i v) ∧ Kn Vs (updF f i) (updT t i v) ∧ I (updF f i) (updT t i v) W') (A t) W)
    (hdone : ∀ (f : Nat → Bool) (t : Nat → Value) (W : World), (∀ i, i < n → f i = true) → Kn Vs f t → I f t W → Q .normal (A t) W) :
    (Code.region id ops true).wp P Q a w := by
  refine wp_region_known Vs A (fun f t W => I f t W ∧ ∀ i j, Region.waitsFor .any ops i j = true → f i = true → f j = true) t0 hm hn hl hord ha ⟨h0, ?_⟩ ?_ ?_
  · intro i j hw hi
    have hi : n ≤ i := by simpa using hi
    rw [waits_none (by omega)] at hw
    cases hw
  · intro i hi f t W hfi hwt hk hI
    refine wpOp_mono ?_ (hstep i hi f t W hfi hwt hI.2 hk hI.1)
    rintro a' W' ⟨v, h1, h2, h3⟩
    refine ⟨v, h1, h2, h3, fun k j hw hk' => ?_⟩
    by_cases e : j = i
    · rw [e]; simp [updF]
    · rw [updF_ne _ e]
      by_cases e2 : k = i
      · rw [e2] at hw; exact hwt j hw
      · rw [updF_ne _ e2] at hk'; exact hI.2 k j hw hk'
  · intro f t W hall hk hI
    exact hdone f t W hall hk hI.1
def PuI (bs ap st : Nat) (Wa Wb Wc Wd : World) (f : Nat → Bool) (W : World) : Prop :=
  (f bs = false → W = Wa) ∧ (f bs = true → f ap = false → W = Wb) ∧ (f ap = true → f st = false → W = Wc) ∧ (f st = true → W = Wd)
section
variable {bs ap st : Nat} {Wa Wb Wc Wd W : World} {f : Nat → Bool}
theorem PuI.start (n : Nat) (h1 : bs < n) (h2 : ap < n) (h3 : st < n) : PuI bs ap st Wa Wb Wc Wd (fun i => decide (n ≤ i)) Wa := by
  refine ⟨fun _ => rfl, fun h => ?_, fun h => ?_, fun h => ?_⟩ <;> (simp at h; omega)
theorem PuI.early (h : PuI bs ap st Wa Wb Wc Wd f W) (ha : f ap = false) : W = Wa ∨ W = Wb := by
  cases hb : f bs
  · exact .inl (h.1 hb)
  · exact .inr (h.2.1 hb ha)
theorem PuI.same (h : PuI bs ap st Wa Wb Wc Wd f W) (i : Nat) (h1 : bs ≠ i) (h2 : ap ≠ i) (h3 : st ≠ i) : PuI bs ap st Wa Wb Wc Wd (updF f i) W := by
  unfold PuI
  rw [updF_ne _ h1, updF_ne _ h2, updF_ne _ h3]
  exact h
theorem updF_self (f : Nat → Bool) (i : Nat) : updF f i i = true := by simp [updF]
theorem PuI.mk1 (hba : ap ≠ bs) (hbs : st ≠ bs) (ha : f ap = false) (hs : f st = false) : PuI bs ap st Wa Wb Wc Wd (updF f bs) Wb := by
  unfold PuI
  rw [updF_self, updF_ne _ hba, updF_ne _ hbs, ha, hs]
  exact ⟨(fun h => by cases h), fun _ _ => rfl, (fun h => by cases h), (fun h => by cases h)⟩
theorem PuI.app (hba : bs ≠ ap) (hbs : st ≠ ap) (hb : f bs = true) (hs : f st = false) : PuI bs ap st Wa Wb Wc Wd (updF f ap) Wc := by
  unfold PuI
  rw [updF_self, updF_ne _ hba, updF_ne _ hbs, hb, hs]
  exact ⟨(fun h => by cases h), (fun _ h => by cases h), fun _ _ => rfl, (fun h => by cases h)⟩
theorem PuI.put (hba : bs ≠ st) (hbs : ap ≠ st) (hb : f bs = true) (ha : f ap = true) : PuI bs ap st Wa Wb Wc Wd (updF f st) Wd := by
  unfold PuI
  rw [updF_self, updF_ne _ hba, updF_ne _ hbs, hb, ha]
  exact ⟨(fun h => by cases h), (fun _ h => by cases h), (fun _ h => by cases h), fun _ => rfl⟩
end
theorem wp_append_run {P : Program} {o : Oper} {a : Act} {K : Act → World → Prop} {Q : Exit → Act → World → Prop} {w w' : World} (s x : Operand) (t : TypeId) (ho : o.op = .call { callee := .builtin .append, args := #[s, x], argTypes := #[t, t] })
    (v xv r : Value) (hs : a.eval s = v) (hx : a.eval x = xv) (hr : (Builtin.append_ #[t, t] o.type #[v, xv]).run P w = .ok r w') (h : K (a.put o.dst r) w') : Oper.wp P o a w K Q := by
  unfold Oper.wp execOp
  simp only [ho, resolve, invoke, builtin, Sem.run_bind, Sem.run_pure, Result.andThen_ok, List.map_toArray, List.map_cons, List.map_nil, hs, hx, hr]
  exact h
end Go.Proofs.YteefodibpjgicaaGreat
