/- Texts joined: Ref06, Ref07, Sub. -/
import Derived.Test.YteefodibpjgicaaGreatA8
import Derived.Test.YteefodibpjgicaaGreatA26
import Derived.Test.YteefodibpjgicaaGreatA27
namespace Go.Proofs.YteefodibpjgicaaGreat
open Go.RowKit
theorem beq_flip (a b : List UInt8) : (a == b) = (b == a):=by
  rw [Bool.eq_iff_iff]; simp only [beq_iff_eq]; exact eq_comm
set_option maxHeartbeats 4000000 in
theorem ref06Closes (o b : ByteArray) (w : World) : Calls Tryz.prog 80 #[.string o,.string b] w fun e w' => e = .returned (.bool (M6.closesB o.data.toList b.data.toList)) ∧ Below w.heap.size w w':=by
  rw [← hasT_closed]
  have hl8 : (closedT o.data.toList).length ≤ 11:=by
    unfold closedT
    repeat' split
    all_goals decide
  obtain ⟨wo,rfl⟩ : ∃ wo : World,wo = w:=⟨_,rfl⟩
  by_cases h0 : o.data.toList = [112]
  · have e0 : (o.toList == [112]) = true:=by rw [Lib.toList_data,h0]; rfl
    have hr : Txs (fun b => b < wo.heap.size + 1) (wo.alloc (.cells #[.string ⟨#[98,108,111,99,107,113,117,111,116,101]⟩,.string ⟨#[100,105,118]⟩,.string ⟨#[104,49]⟩,.string ⟨#[104,50]⟩,.string ⟨#[104,114]⟩,.string ⟨#[108,105]⟩,.string ⟨#[111,108]⟩,.string ⟨#[112]⟩,.string ⟨#[112,114,101]⟩,.string ⟨#[116,97,98,108,101]⟩,.string ⟨#[117,108]⟩] 9)) (.slice (some ⟨wo.heap.size,0,none⟩) 11 11) cl_p:=txs_made (fun b => b < wo.heap.size + 1) wo 9 cl_p 11 rfl (by decide) (by omega)
    have hb0:=(Below.refl wo.heap.size wo).alloc (Nat.le_refl _) (.cells #[.string ⟨#[98,108,111,99,107,113,117,111,116,101]⟩,.string ⟨#[100,105,118]⟩,.string ⟨#[104,49]⟩,.string ⟨#[104,50]⟩,.string ⟨#[104,114]⟩,.string ⟨#[108,105]⟩,.string ⟨#[111,108]⟩,.string ⟨#[112]⟩,.string ⟨#[112,114,101]⟩,.string ⟨#[116,97,98,108,101]⟩,.string ⟨#[117,108]⟩] 9)
    have hcl : closedT o.data.toList = cl_p:=by rw [h0]; rfl
    rw [← hcl] at hr
    clear hcl h0
    generalize closedT o.data.toList = l at *
    have hn : Hid (11 = l.length):=Lib.hid (Row.len hr).1
    have h0 : Hid (hasT b l = hasT b (l.drop 0)):=rfl
    replace hb0:=Lib.hid hb0
    go_enter Tryz.func80,Tryz.ntmps80
    go_wp2_with fail
    obtain ⟨W,hW⟩ : ∃ W,wo.alloc (.cells #[.string ⟨#[98,108,111,99,107,113,117,111,116,101]⟩,.string ⟨#[100,105,118]⟩,.string ⟨#[104,49]⟩,.string ⟨#[104,50]⟩,.string ⟨#[104,114]⟩,.string ⟨#[108,105]⟩,.string ⟨#[111,108]⟩,.string ⟨#[112]⟩,.string ⟨#[112,114,101]⟩,.string ⟨#[116,97,98,108,101]⟩,.string ⟨#[117,108]⟩] 9) = W:=⟨_,rfl⟩
    rw [hW] at hr hb0 ⊢
    clear hW
    go_loopw [6] (fun u6 wr => W = wr ∧ ∃ i : Nat,i ≤ 11 ∧ u6 = .int .i64 (i : Int) ∧ Hid (hasT b l = hasT b (l.drop i))) (fun u6 _ => 11 - (intOf u6).toNat)
    case atStart => exact ⟨rfl,0,by omega,rfl,h0⟩
    case round =>
      obtain ⟨rfl,i,hi,rfl,hv⟩:=hrel
      by_cases hlt : i < 11
      · have hl2 : i < l.length:=by have:=hn.out; omega
        obtain ⟨g,off,ea,_,c0⟩:=Row.atS hr i hl2
        cases ea
        simp only [Nat.zero_add] at c0
        have hd:=hv.out.trans (hasT_drop b l i hl2)
        clear hv
        rw [beq_flip] at hd
        cases ht : (l[i].toList == b.toList)
        · rw [ht,Bool.false_or] at hd
          replace hd:=Lib.hid hd
          generalize l[i] = t at *
          go_wp2_with fail
          go_roundw
          case rel => exact ⟨trivial,i + 1,by omega,by go_num,hd⟩
          case measure => exact meas_nat hlt
        · rw [ht,Bool.true_or] at hd
          replace hd:=Lib.hid hd
          generalize l[i] = t at *
          go_wp2_with fail
          go_ret
          exact ⟨by rw [hd.out]; rfl,hb0.out⟩
      · obtain rfl : i = 11:=by omega
        have hd:=hv.out
        rw [List.drop_of_length_le (by have:=hn.out; omega)] at hd
        replace hd:=Lib.hid hd
        clear hv
        go_wp2_with fail
        go_ret
        exact ⟨by rw [hd.out]; rfl,hb0.out⟩
  have e0 : (o.toList == [112]) = false:=by rw [Lib.toList_data,beq_eq_false_iff_ne]; exact h0
  by_cases h1 : o.data.toList = [108,105]
  · have e1 : (o.toList == [108,105]) = true:=by rw [Lib.toList_data,h1]; rfl
    have hr : Txs (fun b => b < wo.heap.size + 1) (wo.alloc (.cells #[.string ⟨#[108,105]⟩] 9)) (.slice (some ⟨wo.heap.size,0,none⟩) 1 1) cl_li:=txs_made (fun b => b < wo.heap.size + 1) wo 9 cl_li 1 rfl (by decide) (by omega)
    have hb0:=(Below.refl wo.heap.size wo).alloc (Nat.le_refl _) (.cells #[.string ⟨#[108,105]⟩] 9)
    have hcl : closedT o.data.toList = cl_li:=by rw [h1]; rfl
    rw [← hcl] at hr
    clear hcl h1
    generalize closedT o.data.toList = l at *
    have hn : Hid (1 = l.length):=Lib.hid (Row.len hr).1
    have h0 : Hid (hasT b l = hasT b (l.drop 0)):=rfl
    replace hb0:=Lib.hid hb0
    go_enter Tryz.func80,Tryz.ntmps80
    go_wp2_with fail
    obtain ⟨W,hW⟩ : ∃ W,wo.alloc (.cells #[.string ⟨#[108,105]⟩] 9) = W:=⟨_,rfl⟩
    rw [hW] at hr hb0 ⊢
    clear hW
    go_loopw [6] (fun u6 wr => W = wr ∧ ∃ i : Nat,i ≤ 1 ∧ u6 = .int .i64 (i : Int) ∧ Hid (hasT b l = hasT b (l.drop i))) (fun u6 _ => 1 - (intOf u6).toNat)
    case atStart => exact ⟨rfl,0,by omega,rfl,h0⟩
    case round =>
      obtain ⟨rfl,i,hi,rfl,hv⟩:=hrel
      by_cases hlt : i < 1
      · have hl2 : i < l.length:=by have:=hn.out; omega
        obtain ⟨g,off,ea,_,c0⟩:=Row.atS hr i hl2
        cases ea
        simp only [Nat.zero_add] at c0
        have hd:=hv.out.trans (hasT_drop b l i hl2)
        clear hv
        rw [beq_flip] at hd
        cases ht : (l[i].toList == b.toList)
        · rw [ht,Bool.false_or] at hd
          replace hd:=Lib.hid hd
          generalize l[i] = t at *
          go_wp2_with fail
          go_roundw
          case rel => exact ⟨trivial,i + 1,by omega,by go_num,hd⟩
          case measure => exact meas_nat hlt
        · rw [ht,Bool.true_or] at hd
          replace hd:=Lib.hid hd
          generalize l[i] = t at *
          go_wp2_with fail
          go_ret
          exact ⟨by rw [hd.out]; rfl,hb0.out⟩
      · obtain rfl : i = 1:=by omega
        have hd:=hv.out
        rw [List.drop_of_length_le (by have:=hn.out; omega)] at hd
        replace hd:=Lib.hid hd
        clear hv
        go_wp2_with fail
        go_ret
        exact ⟨by rw [hd.out]; rfl,hb0.out⟩
  have e1 : (o.toList == [108,105]) = false:=by rw [Lib.toList_data,beq_eq_false_iff_ne]; exact h1
  by_cases h2 : o.data.toList = [100,116]
  · have e2 : (o.toList == [100,116]) = true:=by rw [Lib.toList_data,h2]; rfl
    have hr : Txs (fun b => b < wo.heap.size + 1) (wo.alloc (.cells #[.string ⟨#[100,100]⟩,.string ⟨#[100,116]⟩] 9)) (.slice (some ⟨wo.heap.size,0,none⟩) 2 2) cl_dt:=txs_made (fun b => b < wo.heap.size + 1) wo 9 cl_dt 2 rfl (by decide) (by omega)
    have hb0:=(Below.refl wo.heap.size wo).alloc (Nat.le_refl _) (.cells #[.string ⟨#[100,100]⟩,.string ⟨#[100,116]⟩] 9)
    have hcl : closedT o.data.toList = cl_dt:=by rw [h2]; rfl
    rw [← hcl] at hr
    clear hcl h2
    generalize closedT o.data.toList = l at *
    have hn : Hid (2 = l.length):=Lib.hid (Row.len hr).1
    have h0 : Hid (hasT b l = hasT b (l.drop 0)):=rfl
    replace hb0:=Lib.hid hb0
    go_enter Tryz.func80,Tryz.ntmps80
    go_wp2_with fail
    obtain ⟨W,hW⟩ : ∃ W,wo.alloc (.cells #[.string ⟨#[100,100]⟩,.string ⟨#[100,116]⟩] 9) = W:=⟨_,rfl⟩
    rw [hW] at hr hb0 ⊢
    clear hW
    go_loopw [6] (fun u6 wr => W = wr ∧ ∃ i : Nat,i ≤ 2 ∧ u6 = .int .i64 (i : Int) ∧ Hid (hasT b l = hasT b (l.drop i))) (fun u6 _ => 2 - (intOf u6).toNat)
    case atStart => exact ⟨rfl,0,by omega,rfl,h0⟩
    case round =>
      obtain ⟨rfl,i,hi,rfl,hv⟩:=hrel
      by_cases hlt : i < 2
      · have hl2 : i < l.length:=by have:=hn.out; omega
        obtain ⟨g,off,ea,_,c0⟩:=Row.atS hr i hl2
        cases ea
        simp only [Nat.zero_add] at c0
        have hd:=hv.out.trans (hasT_drop b l i hl2)
        clear hv
        rw [beq_flip] at hd
        cases ht : (l[i].toList == b.toList)
        · rw [ht,Bool.false_or] at hd
          replace hd:=Lib.hid hd
          generalize l[i] = t at *
          go_wp2_with fail
          go_roundw
          case rel => exact ⟨trivial,i + 1,by omega,by go_num,hd⟩
          case measure => exact meas_nat hlt
        · rw [ht,Bool.true_or] at hd
          replace hd:=Lib.hid hd
          generalize l[i] = t at *
          go_wp2_with fail
          go_ret
          exact ⟨by rw [hd.out]; rfl,hb0.out⟩
      · obtain rfl : i = 2:=by omega
        have hd:=hv.out
        rw [List.drop_of_length_le (by have:=hn.out; omega)] at hd
        replace hd:=Lib.hid hd
        clear hv
        go_wp2_with fail
        go_ret
        exact ⟨by rw [hd.out]; rfl,hb0.out⟩
  have e2 : (o.toList == [100,116]) = false:=by rw [Lib.toList_data,beq_eq_false_iff_ne]; exact h2
  by_cases h3 : o.data.toList = [100,100]
  · have e3 : (o.toList == [100,100]) = true:=by rw [Lib.toList_data,h3]; rfl
    have hr : Txs (fun b => b < wo.heap.size + 1) (wo.alloc (.cells #[.string ⟨#[100,100]⟩,.string ⟨#[100,116]⟩] 9)) (.slice (some ⟨wo.heap.size,0,none⟩) 2 2) cl_dd:=txs_made (fun b => b < wo.heap.size + 1) wo 9 cl_dd 2 rfl (by decide) (by omega)
    have hb0:=(Below.refl wo.heap.size wo).alloc (Nat.le_refl _) (.cells #[.string ⟨#[100,100]⟩,.string ⟨#[100,116]⟩] 9)
    have hcl : closedT o.data.toList = cl_dd:=by rw [h3]; rfl
    rw [← hcl] at hr
    clear hcl h3
    generalize closedT o.data.toList = l at *
    have hn : Hid (2 = l.length):=Lib.hid (Row.len hr).1
    have h0 : Hid (hasT b l = hasT b (l.drop 0)):=rfl
    replace hb0:=Lib.hid hb0
    go_enter Tryz.func80,Tryz.ntmps80
    go_wp2_with fail
    obtain ⟨W,hW⟩ : ∃ W,wo.alloc (.cells #[.string ⟨#[100,100]⟩,.string ⟨#[100,116]⟩] 9) = W:=⟨_,rfl⟩
    rw [hW] at hr hb0 ⊢
    clear hW
    go_loopw [6] (fun u6 wr => W = wr ∧ ∃ i : Nat,i ≤ 2 ∧ u6 = .int .i64 (i : Int) ∧ Hid (hasT b l = hasT b (l.drop i))) (fun u6 _ => 2 - (intOf u6).toNat)
    case atStart => exact ⟨rfl,0,by omega,rfl,h0⟩
    case round =>
      obtain ⟨rfl,i,hi,rfl,hv⟩:=hrel
      by_cases hlt : i < 2
      · have hl2 : i < l.length:=by have:=hn.out; omega
        obtain ⟨g,off,ea,_,c0⟩:=Row.atS hr i hl2
        cases ea
        simp only [Nat.zero_add] at c0
        have hd:=hv.out.trans (hasT_drop b l i hl2)
        clear hv
        rw [beq_flip] at hd
        cases ht : (l[i].toList == b.toList)
        · rw [ht,Bool.false_or] at hd
          replace hd:=Lib.hid hd
          generalize l[i] = t at *
          go_wp2_with fail
          go_roundw
          case rel => exact ⟨trivial,i + 1,by omega,by go_num,hd⟩
          case measure => exact meas_nat hlt
        · rw [ht,Bool.true_or] at hd
          replace hd:=Lib.hid hd
          generalize l[i] = t at *
          go_wp2_with fail
          go_ret
          exact ⟨by rw [hd.out]; rfl,hb0.out⟩
      · obtain rfl : i = 2:=by omega
        have hd:=hv.out
        rw [List.drop_of_length_le (by have:=hn.out; omega)] at hd
        replace hd:=Lib.hid hd
        clear hv
        go_wp2_with fail
        go_ret
        exact ⟨by rw [hd.out]; rfl,hb0.out⟩
  have e3 : (o.toList == [100,100]) = false:=by rw [Lib.toList_data,beq_eq_false_iff_ne]; exact h3
  by_cases h4 : o.data.toList = [111,112,116,105,111,110]
  · have e4 : (o.toList == [111,112,116,105,111,110]) = true:=by rw [Lib.toList_data,h4]; rfl
    have hr : Txs (fun b => b < wo.heap.size + 1) (wo.alloc (.cells #[.string ⟨#[111,112,116,105,111,110]⟩] 9)) (.slice (some ⟨wo.heap.size,0,none⟩) 1 1) cl_option:=txs_made (fun b => b < wo.heap.size + 1) wo 9 cl_option 1 rfl (by decide) (by omega)
    have hb0:=(Below.refl wo.heap.size wo).alloc (Nat.le_refl _) (.cells #[.string ⟨#[111,112,116,105,111,110]⟩] 9)
    have hcl : closedT o.data.toList = cl_option:=by rw [h4]; rfl
    rw [← hcl] at hr
    clear hcl h4
    generalize closedT o.data.toList = l at *
    have hn : Hid (1 = l.length):=Lib.hid (Row.len hr).1
    have h0 : Hid (hasT b l = hasT b (l.drop 0)):=rfl
    replace hb0:=Lib.hid hb0
    go_enter Tryz.func80,Tryz.ntmps80
    go_wp2_with fail
    obtain ⟨W,hW⟩ : ∃ W,wo.alloc (.cells #[.string ⟨#[111,112,116,105,111,110]⟩] 9) = W:=⟨_,rfl⟩
    rw [hW] at hr hb0 ⊢
    clear hW
    go_loopw [6] (fun u6 wr => W = wr ∧ ∃ i : Nat,i ≤ 1 ∧ u6 = .int .i64 (i : Int) ∧ Hid (hasT b l = hasT b (l.drop i))) (fun u6 _ => 1 - (intOf u6).toNat)
    case atStart => exact ⟨rfl,0,by omega,rfl,h0⟩
    case round =>
      obtain ⟨rfl,i,hi,rfl,hv⟩:=hrel
      by_cases hlt : i < 1
      · have hl2 : i < l.length:=by have:=hn.out; omega
        obtain ⟨g,off,ea,_,c0⟩:=Row.atS hr i hl2
        cases ea
        simp only [Nat.zero_add] at c0
        have hd:=hv.out.trans (hasT_drop b l i hl2)
        clear hv
        rw [beq_flip] at hd
        cases ht : (l[i].toList == b.toList)
        · rw [ht,Bool.false_or] at hd
          replace hd:=Lib.hid hd
          generalize l[i] = t at *
          go_wp2_with fail
          go_roundw
          case rel => exact ⟨trivial,i + 1,by omega,by go_num,hd⟩
          case measure => exact meas_nat hlt
        · rw [ht,Bool.true_or] at hd
          replace hd:=Lib.hid hd
          generalize l[i] = t at *
          go_wp2_with fail
          go_ret
          exact ⟨by rw [hd.out]; rfl,hb0.out⟩
      · obtain rfl : i = 1:=by omega
        have hd:=hv.out
        rw [List.drop_of_length_le (by have:=hn.out; omega)] at hd
        replace hd:=Lib.hid hd
        clear hv
        go_wp2_with fail
        go_ret
        exact ⟨by rw [hd.out]; rfl,hb0.out⟩
  have e4 : (o.toList == [111,112,116,105,111,110]) = false:=by rw [Lib.toList_data,beq_eq_false_iff_ne]; exact h4
  by_cases h5 : o.data.toList = [116,100]
  · have e5 : (o.toList == [116,100]) = true:=by rw [Lib.toList_data,h5]; rfl
    have hr : Txs (fun b => b < wo.heap.size + 1) (wo.alloc (.cells #[.string ⟨#[116,100]⟩,.string ⟨#[116,114]⟩] 9)) (.slice (some ⟨wo.heap.size,0,none⟩) 2 2) cl_td:=txs_made (fun b => b < wo.heap.size + 1) wo 9 cl_td 2 rfl (by decide) (by omega)
    have hb0:=(Below.refl wo.heap.size wo).alloc (Nat.le_refl _) (.cells #[.string ⟨#[116,100]⟩,.string ⟨#[116,114]⟩] 9)
    have hcl : closedT o.data.toList = cl_td:=by rw [h5]; rfl
    rw [← hcl] at hr
    clear hcl h5
    generalize closedT o.data.toList = l at *
    have hn : Hid (2 = l.length):=Lib.hid (Row.len hr).1
    have h0 : Hid (hasT b l = hasT b (l.drop 0)):=rfl
    replace hb0:=Lib.hid hb0
    go_enter Tryz.func80,Tryz.ntmps80
    go_wp2_with fail
    obtain ⟨W,hW⟩ : ∃ W,wo.alloc (.cells #[.string ⟨#[116,100]⟩,.string ⟨#[116,114]⟩] 9) = W:=⟨_,rfl⟩
    rw [hW] at hr hb0 ⊢
    clear hW
    go_loopw [6] (fun u6 wr => W = wr ∧ ∃ i : Nat,i ≤ 2 ∧ u6 = .int .i64 (i : Int) ∧ Hid (hasT b l = hasT b (l.drop i))) (fun u6 _ => 2 - (intOf u6).toNat)
    case atStart => exact ⟨rfl,0,by omega,rfl,h0⟩
    case round =>
      obtain ⟨rfl,i,hi,rfl,hv⟩:=hrel
      by_cases hlt : i < 2
      · have hl2 : i < l.length:=by have:=hn.out; omega
        obtain ⟨g,off,ea,_,c0⟩:=Row.atS hr i hl2
        cases ea
        simp only [Nat.zero_add] at c0
        have hd:=hv.out.trans (hasT_drop b l i hl2)
        clear hv
        rw [beq_flip] at hd
        cases ht : (l[i].toList == b.toList)
        · rw [ht,Bool.false_or] at hd
          replace hd:=Lib.hid hd
          generalize l[i] = t at *
          go_wp2_with fail
          go_roundw
          case rel => exact ⟨trivial,i + 1,by omega,by go_num,hd⟩
          case measure => exact meas_nat hlt
        · rw [ht,Bool.true_or] at hd
          replace hd:=Lib.hid hd
          generalize l[i] = t at *
          go_wp2_with fail
          go_ret
          exact ⟨by rw [hd.out]; rfl,hb0.out⟩
      · obtain rfl : i = 2:=by omega
        have hd:=hv.out
        rw [List.drop_of_length_le (by have:=hn.out; omega)] at hd
        replace hd:=Lib.hid hd
        clear hv
        go_wp2_with fail
        go_ret
        exact ⟨by rw [hd.out]; rfl,hb0.out⟩
  have e5 : (o.toList == [116,100]) = false:=by rw [Lib.toList_data,beq_eq_false_iff_ne]; exact h5
  by_cases h6 : o.data.toList = [116,114]
  · have e6 : (o.toList == [116,114]) = true:=by rw [Lib.toList_data,h6]; rfl
    have hr : Txs (fun b => b < wo.heap.size + 1) (wo.alloc (.cells #[.string ⟨#[116,114]⟩] 9)) (.slice (some ⟨wo.heap.size,0,none⟩) 1 1) cl_tr:=txs_made (fun b => b < wo.heap.size + 1) wo 9 cl_tr 1 rfl (by decide) (by omega)
    have hb0:=(Below.refl wo.heap.size wo).alloc (Nat.le_refl _) (.cells #[.string ⟨#[116,114]⟩] 9)
    have hcl : closedT o.data.toList = cl_tr:=by rw [h6]; rfl
    rw [← hcl] at hr
    clear hcl h6
    generalize closedT o.data.toList = l at *
    have hn : Hid (1 = l.length):=Lib.hid (Row.len hr).1
    have h0 : Hid (hasT b l = hasT b (l.drop 0)):=rfl
    replace hb0:=Lib.hid hb0
    go_enter Tryz.func80,Tryz.ntmps80
    go_wp2_with fail
    obtain ⟨W,hW⟩ : ∃ W,wo.alloc (.cells #[.string ⟨#[116,114]⟩] 9) = W:=⟨_,rfl⟩
    rw [hW] at hr hb0 ⊢
    clear hW
    go_loopw [6] (fun u6 wr => W = wr ∧ ∃ i : Nat,i ≤ 1 ∧ u6 = .int .i64 (i : Int) ∧ Hid (hasT b l = hasT b (l.drop i))) (fun u6 _ => 1 - (intOf u6).toNat)
    case atStart => exact ⟨rfl,0,by omega,rfl,h0⟩
    case round =>
      obtain ⟨rfl,i,hi,rfl,hv⟩:=hrel
      by_cases hlt : i < 1
      · have hl2 : i < l.length:=by have:=hn.out; omega
        obtain ⟨g,off,ea,_,c0⟩:=Row.atS hr i hl2
        cases ea
        simp only [Nat.zero_add] at c0
        have hd:=hv.out.trans (hasT_drop b l i hl2)
        clear hv
        rw [beq_flip] at hd
        cases ht : (l[i].toList == b.toList)
        · rw [ht,Bool.false_or] at hd
          replace hd:=Lib.hid hd
          generalize l[i] = t at *
          go_wp2_with fail
          go_roundw
          case rel => exact ⟨trivial,i + 1,by omega,by go_num,hd⟩
          case measure => exact meas_nat hlt
        · rw [ht,Bool.true_or] at hd
          replace hd:=Lib.hid hd
          generalize l[i] = t at *
          go_wp2_with fail
          go_ret
          exact ⟨by rw [hd.out]; rfl,hb0.out⟩
      · obtain rfl : i = 1:=by omega
        have hd:=hv.out
        rw [List.drop_of_length_le (by have:=hn.out; omega)] at hd
        replace hd:=Lib.hid hd
        clear hv
        go_wp2_with fail
        go_ret
        exact ⟨by rw [hd.out]; rfl,hb0.out⟩
  have e6 : (o.toList == [116,114]) = false:=by rw [Lib.toList_data,beq_eq_false_iff_ne]; exact h6
  have hcl : closedT o.data.toList = []:=by unfold closedT; rw [if_neg h0,if_neg h1,if_neg h2,if_neg h3,if_neg h4,if_neg h5,if_neg h6]
  rw [hcl]
  clear hcl hl8 h0 h1 h2 h3 h4 h5 h6
  go_enter Tryz.func80,Tryz.ntmps80
  go_wp2_with fail
  go_loopw [6] (fun u6 wr => wo = wr ∧ u6 = .int .i64 0) (fun u6 _ => 0)
  case atStart => exact ⟨rfl,rfl⟩
  case round =>
    obtain ⟨rfl,rfl⟩:=hrel
    go_wp2_with fail
    go_ret
    exact ⟨rfl,Below.refl _ _⟩
end Go.Proofs.YteefodibpjgicaaGreat

namespace Go.Proofs.YteefodibpjgicaaGreat
open Go.RowKit
def Ints (S : Nat → Prop) (w : World) (v : Value) (l : List Nat) : Prop:=Row S w 1 v l.length (l.map fun k : Nat => Value.int .i64 (k : Int))
theorem Ints.at_ {S : Nat → Prop} {w : World} {a : Option Addr} {n cap : Nat} {l : List Nat} (h : Ints S w (.slice a n cap) l) (i k : Nat) (hk : l[i]? = some k) :
    ∃ b off,a = some ⟨b,off,none⟩ ∧ S b ∧ w.cell? ⟨b,off + i,none⟩ = some (.int .i64 (k : Int)):=by
  obtain ⟨h0,a',cap',h1,h2,h3,h4,h5⟩:=h
  cases h1
  have hi:=(List.getElem?_eq_some_iff.1 hk).1
  obtain ⟨b,off,rfl,h7,h8⟩:=h5 (by omega)
  exact ⟨b,off,rfl,h7,h8 i _ (by rw [List.getElem?_map,hk]; rfl)⟩
theorem Ints.below {S : Nat → Prop} {w w' : World} {v : Value} {l : List Nat} (h : Ints S w v l) (hS : ∀ b,S b → b < w.heap.size) (hb : Below w.heap.size w w') : Ints S w' v l:=Row.keep h (fun b h => hb.block b (hS b h))
theorem infoStr : (Tryz.prog.info? 9).map (fun i => (i.zero,i.size,i.bytes)) = some (some (.string ⟨#[]⟩),1,16):=by kernel_rfl
theorem infoInt7 : (Tryz.prog.info? 3).map (fun i => (i.zero,i.size,i.bytes)) = some (some (.int .i64 0),1,8):=by kernel_rfl
set_option maxHeartbeats 2000000 in
theorem ref07count (S : Nat → Prop) (v vp : Value) (L : List Nd) (d : Nat) (w : World) (hS : ∀ b,S b → b < w.heap.size) (hr : RepN S w v L) (hok : M7.okD d L) (hp : Ints S w vp (M7.pathN d L)) :
    Calls Tryz.prog 82 #[v,vp] w fun e w' => e = .returned (.int .i64 ((M7.levelN d L).length : Int)) ∧ w = w':=by
  obtain ⟨a,cap,rfl⟩:=hr.slice
  obtain ⟨ap,cp,hvp⟩:=Row.slice hp
  have hpl:=M7.pathN_len hok
  subst hvp
  obtain ⟨_,hlc,hcm⟩:=Row.len hp
  rw [hpl] at hlc
  rw [hpl] at hp ⊢
  replace hok:=Lib.hid hok
  obtain ⟨wo,rfl⟩ : ∃ wo : World,wo = w:=⟨_,rfl⟩
  go_enter Tryz.func82,Tryz.ntmps82
  go_wp2_with fail
  go_loopw [0,5] (fun u0 u5 wr => wo = wr ∧ ∃ i : Nat,i ≤ d ∧ u5 = .int .i64 (i : Int) ∧ RepN S wo u0 (M7.levelN i L)) (fun _ u5 _ => d - (intOf u5).toNat)
  case atStart => exact ⟨rfl,0,by omega,rfl,hr⟩
  case round =>
    obtain ⟨rfl,i,hi,rfl,hl⟩:=hrel
    obtain ⟨a0,c0,hu0⟩:=hl.slice
    subst hu0
    obtain ⟨_,hlc2,hcm2⟩:=hl.len
    by_cases hlt : i < d
    · obtain ⟨A,x,q1,q2,q3,_⟩:=M7.level_at hok.out hlt
      obtain ⟨b,off,ea,hSb,k0⟩:=Ints.at_ hp i _ q3
      subst ea
      rw [q1] at hl hlc2
      obtain ⟨b2,off2,va,vk,ea,hSb2,c0',c1,c2,c3,c4,hrv⟩:=hl.at_ A.length (by simp)
      subst ea
      rw [List.getElem_append_right (Nat.le_refl _)] at hrv
      simp only [Nat.sub_self,List.getElem_cons_zero] at hrv
      have hk : RepN S wo vk (M7.levelN (i + 1) L):=by rw [q2]; exact hrv.kids
      obtain ⟨a4,c4',hvk⟩:=hrv.kids.slice
      subst hvk
      have hll : (A ++ [x]).length = A.length + 1:=by simp
      rw [hll] at hlc2
      have hA0 : (0 : Int) ≤ (A.length : Int):=by omega
      have hA1 : (A.length : Int) < (A.length : Int) + 1:=by omega
      rw [q1,hll]
      clear q1 q2 q3 hl hrv
      replace hk:=Lib.hid hk
      go_wp2_with fail
      go_roundw
      case rel => exact ⟨trivial,i + 1,by omega,by go_num,hk.out⟩
      case measure => exact meas_nat hlt
    · obtain rfl : i = d:=by omega
      go_wp2_with fail
      go_ret
      exact ⟨rfl,rfl⟩
def NewTxs (l : List ByteArray) (w : World) (e : Ending) (w' : World) : Prop:=∃ v',e = .returned v' ∧ Txs (fun b => w.heap.size ≤ b ∧ b < w'.heap.size) w' v' l ∧ Below w.heap.size w w'
set_option maxHeartbeats 4000000 in
set_option maxRecDepth 100000 in
theorem ref07Open (S : Nat → Prop) (v vp : Value) (L : List Nd) (d : Nat) (w : World) (hS : ∀ b,S b → b < w.heap.size) (hr : RepN S w v L) (hok : M7.okD d L) (hd : d ≤ 1000000) (hp : Ints S w vp (M7.pathN d L)) :
    Calls Tryz.prog 81 #[.agg #[v,vp]] w (NewTxs (M7.openN d L) w):=by
  obtain ⟨a,cap,rfl⟩:=hr.slice
  obtain ⟨ap,cp,hvp⟩:=Row.slice hp
  have hpl:=M7.pathN_len hok
  have hol:=M7.openN_len hok
  subst hvp
  obtain ⟨_,hlc,hcm⟩:=Row.len hp
  rw [hpl] at hlc
  rw [hpl] at hp ⊢
  replace hok:=Lib.hid hok
  obtain ⟨wo,rfl⟩ : ∃ wo : World,wo = w:=⟨_,rfl⟩
  have bx:=Box.new wo 84 [.slice a L.length cap,.slice ap d cp]
  have hb0 : Below wo.heap.size wo (wo.alloc (.cells #[.slice a L.length cap,.slice ap d cp] 84)):=(Below.refl _ wo).alloc (Nat.le_refl _) _
  have hsz : (wo.alloc (.cells #[.slice a L.length cap,.slice ap d cp] 84)).heap.size = wo.heap.size + 1:=by simp
  have hr0:=hr.below hS hb0
  go_enter Tryz.func81,Tryz.ntmps81
  go_wp2_with fail
  obtain ⟨w0,hw0⟩ : ∃ W,wo.alloc (.cells #[.slice a L.length cap,.slice ap d cp] 84) = W:=⟨_,rfl⟩
  change Box (wo.alloc (.cells #[.slice a L.length cap,.slice ap d cp] 84)) _ _ _ at bx
  rw [hw0] at bx hb0 hsz hr0 ⊢
  clear hw0
  have hp0:=Ints.below hp hS hb0
  go_loopw [3,4,5] (fun u3 u4 u5 wr => ∃ i : Nat,i ≤ d ∧ u5 = .int .i64 (i : Int) ∧ RepN S wr u4 (M7.levelN i L) ∧ wr.ownsRow w0.heap.size 9 1 u3 i (((M7.openN d L).take i).flatMap fun s => [.string s]) ∧ Below w0.heap.size w0 wr) (fun _ _ u5 _ => d - (intOf u5).toNat)
  case atStart => exact ⟨0,by omega,rfl,hr0,World.ownsRow_nil _ _ _ _,Below.refl _ _⟩
  case round =>
    obtain ⟨i,hi,rfl,hl,hown,hb⟩:=hrel
    have hz:=hb.size
    obtain ⟨a0,c0,hu0⟩:=hl.slice
    subst hu0
    obtain ⟨_,hlc2,hcm2⟩:=hl.len
    have bxr:=bx.below hb (by omega)
    have p0:=bxr.cell (i:=0) rfl
    have p1:=bxr.cell (i:=1) rfl
    by_cases hlt : i < d
    · obtain ⟨A,x,q1,q2,q3,q4⟩:=M7.level_at hok.out hlt
      have hpr : Ints S wr (.slice ap d cp) (M7.pathN d L):=Row.keep hp0 (fun b h => hb.block b (by have:=hS b h; omega))
      obtain ⟨b,off,ea,hSb,k0⟩:=Ints.at_ hpr i _ q3
      subst ea
      rw [q1] at hl hlc2
      obtain ⟨b2,off2,va,vk,ea,hSb2,c0',c1,c2,c3,c4,hrv⟩:=hl.at_ A.length (by simp)
      subst ea
      rw [List.getElem_append_right (Nat.le_refl _)] at c1 hrv
      simp only [Nat.sub_self,List.getElem_cons_zero] at c1 hrv
      have hk : RepN S wr vk (M7.levelN (i + 1) L):=by rw [q2]; exact hrv.kids
      obtain ⟨a4,c4',hvk⟩:=hrv.kids.slice
      subst hvk
      have hll : (A ++ [x]).length = A.length + 1:=by simp
      rw [hll] at hlc2
      have hA0 : (0 : Int) ≤ (A.length : Int):=by omega
      have hA1 : (A.length : Int) < (A.length : Int) + 1:=by omega
      have hbl2:=hS b2 hSb2
      have htk : (M7.openN d L).take (i + 1) = (M7.openN d L).take i ++ [x.name]:=by
        rw [List.take_add_one,q4]; rfl
      rw [q1,hll]
      clear q1 q2 q3 q4 hl hrv
      replace hk:=Lib.hid hk
      replace htk:=Lib.hid htk
      have hl2 : ∀ c,c < w0.heap.size → some c ≠ u3.ownBlock:=fun c hc e => by have:=(hown.lt c e.symm).1; omega
      have hbl:=hS b hSb
      go_wp2_with (at_builtin
                   refine wpList_appK wr [.string x.name] 1 rfl _ _ 92 9 rfl w0.heap.size Tryz.underlying92 infoStr rfl (by omega) _ i (((M7.openN d L).take i).flatMap fun s => [.string s]) rfl hown wr.heap.size rfl (by rfl) rfl (by simp [Value.oneCell']) (by omega) (by omega) hz ?_
                   intro g cp2 w2 hown2 hgrow2 hat2
                   have p0':=(World.cell?_of_block (a:=⟨wo.heap.size,0,none⟩) (hgrow2.block wo.heap.size (by omega) (hl2 _ (by omega)))).trans p0
                   have p1':=(World.cell?_of_block (a:=⟨wo.heap.size,1,none⟩) (hgrow2.block wo.heap.size (by omega) (hl2 _ (by omega)))).trans p1
                   have k0':=(World.cell?_of_block (a:=⟨b,off + i,none⟩) (hgrow2.block b (by omega) (hl2 _ (by omega)))).trans k0
                   have c4'':=(World.cell?_of_block (a:=⟨b2,off2 + A.length * 5 + 4,none⟩) (hgrow2.block b2 (by omega) (hl2 _ (by omega)))).trans c4)
      have hb2 : Below w0.heap.size w0 w2:=below_own hb hown hgrow2 hz (Nat.le_refl _)
      have hk2 : Hid (RepN S w2 (.slice a4 x.kids.length c4') (M7.levelN (i + 1) L)):=hk.out.keep (fun c hc => hgrow2.block c (by have:=hS c hc; omega) (hl2 c (by have:=hS c hc; omega)))
      have hown3 : w2.ownsRow w0.heap.size 9 1 (.slice (some ⟨g,0,none⟩) (i + 1) cp2) (i + 1) (((M7.openN d L).take (i + 1)).flatMap fun s => [.string s]):=by
        rw [htk.out,List.flatMap_append]; exact hown2
      clear hown2 hgrow2 hat2 hk hl2
      go_roundw
      case rel => exact ⟨i + 1,by omega,by go_num,hk2.out,hown3,hb2⟩
      case measure => exact meas_nat hlt
    · obtain rfl : i = d:=by omega
      have hres : Hid (Txs (fun b => wo.heap.size ≤ b ∧ b < wr.heap.size) wr u3 (M7.openN i L)):=by
        rw [List.take_of_length_le (by omega)] at hown
        exact Row.mono (Row.own (S:=fun b => wo.heap.size ≤ b ∧ b < wr.heap.size) (by rw [hol]; exact hown) (fun g hg => ⟨by have:=(hown.lt g hg).1; omega,(hown.lt g hg).2⟩)) (fun b h => h)
      have hbo:=bt hb0 hb
      clear hown
      go_wp2_with fail
      go_ret
      exact ⟨u3,rfl,hres.out,hbo⟩
end Go.Proofs.YteefodibpjgicaaGreat

namespace Go.Proofs.YteefodibpjgicaaGreat
open Go.RowKit
theorem Row.rest1 {S : Nat → Prop} {w : World} {b off n cap : Nat} {u : Value} {xs : List Value} (h : Row S w 1 (.slice (some ⟨b,off,none⟩) n cap) (xs.length + 1) (u :: xs)) :
    Row S w 1 (.slice (if cap = 1 then some ⟨b,off,none⟩ else some ⟨b,off + 1,none⟩) (n - 1) (cap - 1)) xs.length xs:=by
  obtain ⟨h0,a',cap',h1,h2,h3,h4,h5⟩:=h
  cases h1
  obtain ⟨b',off',e,hb,hx⟩:=h5 (by omega)
  cases e
  refine ⟨by simp,_,cap - 1,by rw [show xs.length + 1 - 1 = xs.length by omega],by omega,by omega,(fun e => by split at e <;> cases e),fun hp => ?_⟩
  rw [if_neg (by omega)]
  exact ⟨b,off + 1,rfl,hb,fun j y hj => by
    have:=hx (j + 1) y (by simpa using hj)
    rwa [show off + (j + 1) = off + 1 + j by omega] at this⟩
end Go.Proofs.YteefodibpjgicaaGreat
