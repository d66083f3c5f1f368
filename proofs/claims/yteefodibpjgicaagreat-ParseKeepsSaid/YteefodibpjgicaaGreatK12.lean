/- Texts joined: Ref06b, Mod3, Ref06c, Law06, Ref06d, Ref06e, Law06s, Law08k. -/
import Derived.Test.YteefodibpjgicaaGreatK1
import Derived.Test.YteefodibpjgicaaGreatK2
import Derived.Test.YteefodibpjgicaaGreatK3
import Derived.Test.YteefodibpjgicaaGreatK4
import Derived.Test.YteefodibpjgicaaGreatK5
import Derived.Test.YteefodibpjgicaaGreatK6
import Derived.Test.YteefodibpjgicaaGreatK7
import Derived.Test.YteefodibpjgicaaGreatK8
import Derived.Test.YteefodibpjgicaaGreatK9
import Derived.Test.YteefodibpjgicaaGreatK10
import Derived.Test.YteefodibpjgicaaGreatK11
namespace Go.Proofs.YteefodibpjgicaaGreat
open Go.RowKit
theorem has_short (w l : List UInt8) (h : l.length < w.length) : M6.hasB w l = false := by
  induction l with
  | nil => rfl
  | cons c r ih =>
    unfold M6.hasB at *
    have hp : w.isPrefixOf (c :: r) = false := by
      rw [Bool.eq_false_iff]
      intro e
      have := (List.isPrefixOf_iff_prefix.1 e).length_le
      omega
    have ih := ih (by simp only [List.length_cons] at h; omega)
    rw [M5.findL, hp, if_neg Bool.false_ne_true]
    simp only [decide_eq_false_iff_not, List.length_cons] at ih ⊢
    omega
theorem has_cons (w : List UInt8) (c : UInt8) (r : List UInt8) : M6.hasB w (c :: r) = (w.isPrefixOf (c :: r) || M6.hasB w r) := by
  unfold M6.hasB
  rw [M5.findL]
  cases hp : w.isPrefixOf (c :: r)
  · rw [if_neg Bool.false_ne_true, Bool.false_or, Bool.eq_iff_iff]
    simp
  · rw [if_pos rfl]
    simp
theorem has_step (wd : List UInt8) (s : ByteArray) (i n : Nat) (hn : wd.length = n) (h0 : 0 < n) (h : i + n ≤ s.size) : M6.hasB wd (s.data.toList.drop i) = (((s.extract i (i + n)).data.toList == wd) || M6.hasB wd (s.data.toList.drop (i + 1))) := by
  subst hn
  have hx : (s.extract i (i + wd.length)).data.toList = (s.data.toList.drop i).take wd.length := by rw [Lib.extract_data, Nat.add_sub_cancel_left]
  rw [hx]
  have e : wd.isPrefixOf (s.data.toList.drop i) = ((s.data.toList.drop i).take wd.length == wd) := by
    rw [Bool.eq_iff_iff, List.isPrefixOf_iff_prefix, List.prefix_iff_eq_take, beq_iff_eq]
    exact eq_comm
  rw [← e, drop_cons s i (by omega), has_cons]
set_option maxHeartbeats 1000000 in
theorem ref06has (s wd : ByteArray) (w : World) (hs : s.size ≤ 1073741824) (h0 : 0 < wd.size) (hw : wd.size ≤ 1000) :
    Calls Tryz.prog 58 #[.string s, .string wd] w fun e w' => e = .returned (.bool (M6.hasB wd.data.toList s.data.toList)) ∧ w = w' := by
  obtain ⟨R, hR⟩ : ∃ R, Hid (R = M6.hasB wd.data.toList (s.data.toList.drop 0)) := ⟨_, rfl⟩
  rw [show M6.hasB wd.data.toList s.data.toList = R from hR.out.symm]
  obtain ⟨n, hn⟩ : ∃ n, wd.size = n := ⟨_, rfl⟩
  have hwl : wd.data.toList.length = n := hn
  obtain ⟨wo, rfl⟩ : ∃ wo : World, wo = w := ⟨_, rfl⟩
  go_enter Tryz.func58, Tryz.ntmps58
  go_wp2_with fail
  go_loopw [5] (fun u5 wr => wo = wr ∧ ∃ i : Nat, i ≤ s.size + 1 ∧ u5 = .int .i64 (i : Int) ∧ Hid (R = M6.hasB wd.data.toList (s.data.toList.drop i))) (fun u5 _ => s.size + 1 - (intOf u5).toNat)
  case atStart => exact ⟨rfl, 0, by omega, rfl, hR⟩
  case round =>
    obtain ⟨rfl, i, hi, rfl, hv⟩ := hrel
    by_cases hlt : i + n ≤ s.size
    · have hd := hv.out.trans (has_step wd.data.toList s i n hwl (by omega) hlt)
      clear hv
      have hlt2 : i < s.size + 1 := by omega
      cases ht : ((s.extract i (i + n)).data.toList == wd.data.toList)
      · rw [ht, Bool.false_or] at hd
        have ht2 : ((s.extract i (i + n)).toList == wd.toList) = false := by rw [Lib.toList_data, Lib.toList_data]; exact ht
        clear ht
        replace hd := Lib.hid hd
        go_wp2_with fail
        go_roundw
        case rel => exact ⟨trivial, i + 1, by omega, by go_num, hd⟩
        case measure => exact meas_nat hlt2
      · rw [ht, Bool.true_or] at hd
        have ht2 : ((s.extract i (i + n)).toList == wd.toList) = true := by rw [Lib.toList_data, Lib.toList_data]; exact ht
        clear ht
        replace hd := Lib.hid hd
        go_wp2_with fail
        go_ret
        exact ⟨by rw [hd.out]; rfl, rfl⟩
    · have hd := hv.out.trans (has_short _ _ (by rw [List.length_drop, hwl]; show s.size - i < n; omega))
      replace hd := Lib.hid hd
      clear hv
      go_wp2_with fail
      go_ret
      exact ⟨by rw [hd.out]; rfl, rfl⟩
set_option maxHeartbeats 4000000 in
set_option maxRecDepth 100000 in
theorem ref06Fits (p : ByteArray) (x : Nd) (va vk : Value) (w : World) (hva : ∃ a n c, va = .slice a n c) (hvk : ∃ a n c, vk = .slice a n c) (hp : p.size ≤ 268435456) (ht : x.text.size ≤ 268435456) :
    Calls Tryz.prog 60 #[.string p, x.val va vk] w (BoolB (M6.fitsB p x) w) := by
  obtain ⟨a1, n1, c1, rfl⟩ := hva
  obtain ⟨a2, n2, c2, rfl⟩ := hvk
  have hV := Lib.hid (fun w => ref03Void p w)
  have hR := Lib.hid (fun w => ref03Raw p w)
  have hC := Lib.hid (fun w => ref06Closes p x.name w)
  obtain ⟨k, n, ats, tx, ks⟩ := x
  simp only [Nd.text, Nd.name] at hC ht
  have hz : (tx ++ ⟨#[60, 47]⟩ ++ p ++ ⟨#[62]⟩ : ByteArray).size ≤ 1073741824 := by
    simp only [ByteArray.size_append]
    show tx.size + 2 + p.size + 1 ≤ _
    omega
  have hE := fun w => ref05Ends (tx ++ ⟨#[60, 47]⟩ ++ p ++ ⟨#[62]⟩ : ByteArray) p w hz (by omega)
  rw [held_data] at hE
  have hv : Hid ((endV (M5.endsL ([60, 47] ++ p.data.toList) (tx.data.toList ++ ([60, 47] ++ p.data.toList ++ [62]))) == (tx.size : Int)) = M6.endsHere p.data.toList tx.data.toList) := by
    show _ = _
    rw [endV_some]
    rfl
  generalize M5.endsL ([60, 47] ++ p.data.toList) (tx.data.toList ++ ([60, 47] ++ p.data.toList ++ [62])) = o at *
  replace hE := Lib.hid hE
  have hfit : M6.fitsB p (.mk k n ats tx ks) = if M3.voidB p.data.toList then false else if M3.rawB p.data.toList then (k == 2) && M6.endsHere p.data.toList tx.data.toList else !(decide (k = 1) && M6.closesB p.data.toList n.data.toList) := rfl
  rw [hfit]
  clear hfit hz
  show Calls Tryz.prog 60 #[.string p, .agg #[.int .i64 k, .string n, .slice a1 n1 c1, .string tx, .slice a2 n2 c2]] w (BoolB _ w)
  have z1 : ¬ 9223372036854775807 < tx.size + 2 := by omega
  have z2 : ¬ 9223372036854775807 < tx.size + 2 + p.size := by omega
  have z3 : ¬ 9223372036854775807 < tx.size + 2 + p.size + 1 := by omega
  obtain ⟨wo, rfl⟩ : ∃ wo : World, wo = w := ⟨_, rfl⟩
  have bx := Box.new wo 41 [.int .i64 k, .string n, .slice a1 n1 c1, .string tx, .slice a2 n2 c2]
  have hb0 : Below wo.heap.size wo (wo.alloc (.cells #[.int .i64 k, .string n, .slice a1 n1 c1, .string tx, .slice a2 n2 c2] 41)) := (Below.refl _ wo).alloc (Nat.le_refl _) _
  cases hvd : M3.voidB p.data.toList
  · cases hr : M3.rawB p.data.toList
    · generalize M6.closesB p.data.toList n.data.toList = cb at *
      rw [hvd] at hV
      rw [hr] at hR
      rw [if_neg Bool.false_ne_true, if_neg Bool.false_ne_true]
      cases hk : (k == 1)
      · rw [show decide (k = 1) = false from hk]
        have hk3 : (k != 1) = true := by rw [bne, hk]; rfl
        go_enter Tryz.func60, Tryz.ntmps60
        go_wp2_with fail
        refine (hV.out _).mono ?_
        rintro e w1 ⟨rfl, rfl⟩
        go_wp2_with fail
        refine (hR.out _).mono ?_
        rintro e w1 ⟨rfl, rfl⟩
        go_wp2_with fail
        refine (hC.out _).mono ?_
        rintro e w1 ⟨rfl, hb1⟩
        have bx1 := bx.below hb1 (by simp)
        have p0 := bx1.cell (i := 0) rfl
        go_wp2_with fail
        go_ret
        exact ⟨rfl, bt hb0 hb1⟩
      · rw [show decide (k = 1) = true from hk]
        have hk3 : (k != 1) = false := by rw [bne, hk]; rfl
        go_enter Tryz.func60, Tryz.ntmps60
        go_wp2_with fail
        refine (hV.out _).mono ?_
        rintro e w1 ⟨rfl, rfl⟩
        go_wp2_with fail
        refine (hR.out _).mono ?_
        rintro e w1 ⟨rfl, rfl⟩
        go_wp2_with fail
        refine (hC.out _).mono ?_
        rintro e w1 ⟨rfl, hb1⟩
        have bx1 := bx.below hb1 (by simp)
        have p0 := bx1.cell (i := 0) rfl
        go_wp2_with fail
        go_ret
        exact ⟨by cases cb <;> rfl, bt hb0 hb1⟩
    · rw [hvd] at hV
      rw [hr] at hR
      rw [if_neg Bool.false_ne_true, if_pos rfl]
      cases hk : (k == 2)
      · rw [Bool.false_and]
        go_enter Tryz.func60, Tryz.ntmps60
        go_wp2_with fail
        refine (hV.out _).mono ?_
        rintro e w1 ⟨rfl, rfl⟩
        go_wp2_with fail
        refine (hR.out _).mono ?_
        rintro e w1 ⟨rfl, rfl⟩
        go_wp2_with fail
        go_quiet (fail)
        go_wp2_with fail
        go_ret
        exact ⟨rfl, below_drewN hb0 _⟩
      · obtain rfl : k = 2 := by simpa using hk
        go_enter Tryz.func60, Tryz.ntmps60
        go_wp2_with fail
        refine (hV.out _).mono ?_
        rintro e w1 ⟨rfl, rfl⟩
        go_wp2_with fail
        refine (hR.out _).mono ?_
        rintro e w1 ⟨rfl, rfl⟩
        go_wp2_with fail
        have hsz : (wo.alloc (.cells #[.int .i64 2, .string n, .slice a1 n1 c1, .string tx, .slice a2 n2 c2] 41)).heap.size = wo.heap.size + 1 := by simp
        obtain ⟨W0, hW0⟩ : ∃ W0, wo.alloc (.cells #[.int .i64 2, .string n, .slice a1 n1 c1, .string tx, .slice a2 n2 c2] 41) = W0 := ⟨_, rfl⟩
        change Box (wo.alloc (.cells #[.int .i64 2, .string n, .slice a1 n1 c1, .string tx, .slice a2 n2 c2] 41)) _ _ _ at bx
        rw [hW0] at bx hb0 hsz ⊢
        clear hW0
        have p0 := bx.cell (i := 0) rfl
        have p3 := bx.cell (i := 3) rfl
        refine wp_region_known (n := 18) ([some (.pointer (some ⟨wo.heap.size, 0, none⟩)), some (.int .i64 2), some (.bool true), some (.bool true), some (.pointer (some ⟨wo.heap.size, 3, none⟩)), some (.string tx), some (.string (tx ++ ⟨#[60, 47]⟩)), some (Value.string p), some (.string (tx ++ ⟨#[60, 47]⟩ ++ p)), some (.string (tx ++ ⟨#[60, 47]⟩ ++ p ++ ⟨#[62]⟩)), some (Value.string p), some (.int .i64 (endV o)), some (.pointer (some ⟨wo.heap.size, 3, none⟩)), some (.string tx), some (.int .i64 (tx.size : Int)), some (.bool (endV o == (tx.size : Int))), some (.bool (endV o == (tx.size : Int))), some (.bool (endV o == (tx.size : Int)))] : List (Option Value)) (fun t => ⟨#[Value.string p, Value.agg #[Value.int IntKind.i64 2, Value.string n, Value.slice a1 n1 c1, Value.string tx, Value.slice a2 n2 c2], undef, Value.pointer (some ⟨wo.heap.size, 0, none⟩), t 17, Value.bool false, Value.bool true, undef, Value.string p, Value.bool false, Value.string p, Value.bool true, Value.bool false, Value.bool true, t 0, t 1, t 2, t 3, t 4, t 5, t 6, t 7, t 8, t 9, t 10, t 11, t 12, t 13, t 14, t 15, t 16, undef, undef, undef, undef, undef, undef, undef, undef, undef, undef, undef], []⟩) (fun f t W => Below W0.heap.size W0 W) (fun j => match j with | 0 => undef | 1 => undef | 2 => undef | 3 => undef | 4 => undef | 5 => undef | 6 => undef | 7 => undef | 8 => undef | 9 => undef | 10 => undef | 11 => undef | 12 => undef | 13 => undef | 14 => undef | 15 => undef | 16 => undef | 17 => Value.bool false | _ => undef) (by kernel_rfl) (by rfl) (by rfl) (by kernel_rfl) rfl ?i0 ?step ?fin
        case i0 =>
          exact (Below.refl _ W0).drew
        case step =>
          intro j0 hj0 f t W hfi hwt hk2 hI
          have s0 := cell_of_below hI p0 (by omega)
          have s3 := cell_of_below hI p3 (by omega)
          obtain rfl | rfl | rfl | rfl | rfl | rfl | rfl | rfl | rfl | rfl | rfl | rfl | rfl | rfl | rfl | rfl | rfl | rfl : j0 = 0 ∨ j0 = 1 ∨ j0 = 2 ∨ j0 = 3 ∨ j0 = 4 ∨ j0 = 5 ∨ j0 = 6 ∨ j0 = 7 ∨ j0 = 8 ∨ j0 = 9 ∨ j0 = 10 ∨ j0 = 11 ∨ j0 = 12 ∨ j0 = 13 ∨ j0 = 14 ∨ j0 = 15 ∨ j0 = 16 ∨ j0 = 17 := by omega
          · -- operation 0
            replace hI := Lib.hid hI
            replace hk2 := Lib.hid hk2
            clear hwt
            refine wpOp_step rfl (fun K hK => ?_)
            go_simp
            exact hK _ _ ⟨_, by simp [updT], hk2.out.at_ rfl, hI.out⟩
          · -- operation 1
            have e0 : t 0 = .pointer (some ⟨wo.heap.size, 0, none⟩) := hk2 0 _ (hwt 0 (by kernel_rfl)) rfl
            replace hI := Lib.hid hI
            replace hk2 := Lib.hid hk2
            clear hwt
            refine wpOp_step rfl (fun K hK => ?_)
            go_simp
            exact hK _ _ ⟨_, by simp [updT, e0], hk2.out.at_ rfl, hI.out⟩
          · -- operation 2
            have e1 : t 1 = .int .i64 2 := hk2 1 _ (hwt 1 (by kernel_rfl)) rfl
            replace hI := Lib.hid hI
            replace hk2 := Lib.hid hk2
            clear hwt
            refine wpOp_step rfl (fun K hK => ?_)
            go_simp
            exact hK _ _ ⟨_, by simp [updT, e1], hk2.out.at_ rfl, hI.out⟩
          · -- operation 3
            have e2 : t 2 = .bool true := hk2 2 _ (hwt 2 (by kernel_rfl)) rfl
            replace hI := Lib.hid hI
            replace hk2 := Lib.hid hk2
            clear hwt
            refine wpOp_step rfl (fun K hK => ?_)
            go_simp
            exact hK _ _ ⟨_, by simp [updT, e2], hk2.out.at_ rfl, hI.out⟩
          · -- operation 4
            have e3 : t 3 = .bool true := hk2 3 _ (hwt 3 (by kernel_rfl)) rfl
            replace hI := Lib.hid hI
            replace hk2 := Lib.hid hk2
            clear hwt
            refine wpOp_step rfl (fun K hK => ?_)
            go_simp
            exact hK _ _ ⟨_, by simp [updT, e3], hk2.out.at_ rfl, hI.out⟩
          · -- operation 5
            have e3 : t 3 = .bool true := hk2 3 _ (hwt 3 (by kernel_rfl)) rfl
            have e4 : t 4 = .pointer (some ⟨wo.heap.size, 3, none⟩) := hk2 4 _ (hwt 4 (by kernel_rfl)) rfl
            replace hI := Lib.hid hI
            replace hk2 := Lib.hid hk2
            clear hwt
            refine wpOp_step rfl (fun K hK => ?_)
            go_simp
            exact hK _ _ ⟨_, by simp [updT, e3, e4], hk2.out.at_ rfl, hI.out⟩
          · -- operation 6
            have e3 : t 3 = .bool true := hk2 3 _ (hwt 3 (by kernel_rfl)) rfl
            have e5 : t 5 = .string tx := hk2 5 _ (hwt 5 (by kernel_rfl)) rfl
            replace hI := Lib.hid hI
            replace hk2 := Lib.hid hk2
            clear hwt
            refine wpOp_step rfl (fun K hK => ?_)
            go_simp
            exact hK _ _ ⟨_, by simp [updT, e3, e5], hk2.out.at_ rfl, hI.out⟩
          · -- operation 7
            have e3 : t 3 = .bool true := hk2 3 _ (hwt 3 (by kernel_rfl)) rfl
            replace hI := Lib.hid hI
            replace hk2 := Lib.hid hk2
            clear hwt
            refine wpOp_step rfl (fun K hK => ?_)
            go_simp
            exact hK _ _ ⟨_, by simp [updT, e3], hk2.out.at_ rfl, hI.out⟩
          · -- operation 8
            have e3 : t 3 = .bool true := hk2 3 _ (hwt 3 (by kernel_rfl)) rfl
            have e6 : t 6 = .string (tx ++ ⟨#[60, 47]⟩) := hk2 6 _ (hwt 6 (by kernel_rfl)) rfl
            have e7 : t 7 = Value.string p := hk2 7 _ (hwt 7 (by kernel_rfl)) rfl
            replace hI := Lib.hid hI
            replace hk2 := Lib.hid hk2
            clear hwt
            refine wpOp_step rfl (fun K hK => ?_)
            go_simp
            exact hK _ _ ⟨_, by simp [updT, e3, e6, e7], hk2.out.at_ rfl, hI.out⟩
          · -- operation 9
            have e3 : t 3 = .bool true := hk2 3 _ (hwt 3 (by kernel_rfl)) rfl
            have e8 : t 8 = .string (tx ++ ⟨#[60, 47]⟩ ++ p) := hk2 8 _ (hwt 8 (by kernel_rfl)) rfl
            replace hI := Lib.hid hI
            replace hk2 := Lib.hid hk2
            clear hwt
            refine wpOp_step rfl (fun K hK => ?_)
            go_simp
            exact hK _ _ ⟨_, by simp [updT, e3, e8], hk2.out.at_ rfl, hI.out⟩
          · -- operation 10
            have e3 : t 3 = .bool true := hk2 3 _ (hwt 3 (by kernel_rfl)) rfl
            replace hI := Lib.hid hI
            replace hk2 := Lib.hid hk2
            clear hwt
            refine wpOp_step rfl (fun K hK => ?_)
            go_simp
            exact hK _ _ ⟨_, by simp [updT, e3], hk2.out.at_ rfl, hI.out⟩
          · -- operation 11
            have e3 : t 3 = .bool true := hk2 3 _ (hwt 3 (by kernel_rfl)) rfl
            have e9 : t 9 = .string (tx ++ ⟨#[60, 47]⟩ ++ p ++ ⟨#[62]⟩) := hk2 9 _ (hwt 9 (by kernel_rfl)) rfl
            have e10 : t 10 = Value.string p := hk2 10 _ (hwt 10 (by kernel_rfl)) rfl
            have hC := Lib.hid (hE.out W)
            replace hk2 := Lib.hid hk2
            replace hI := Lib.hid hI
            clear hwt
            refine wpOp_step rfl (fun K hK => ?_)
            go_simp
            refine hC.out.mono ?_
            rintro e w5 ⟨rfl, hb5⟩
            exact hK _ _ ⟨_, by simp [updT, e3, e9, e10], hk2.out.at_ rfl, hI.out.trans (hb5.mono hI.out.size)⟩
          · -- operation 12
            have e3 : t 3 = .bool true := hk2 3 _ (hwt 3 (by kernel_rfl)) rfl
            replace hI := Lib.hid hI
            replace hk2 := Lib.hid hk2
            clear hwt
            refine wpOp_step rfl (fun K hK => ?_)
            go_simp
            exact hK _ _ ⟨_, by simp [updT, e3], hk2.out.at_ rfl, hI.out⟩
          · -- operation 13
            have e3 : t 3 = .bool true := hk2 3 _ (hwt 3 (by kernel_rfl)) rfl
            have e12 : t 12 = .pointer (some ⟨wo.heap.size, 3, none⟩) := hk2 12 _ (hwt 12 (by kernel_rfl)) rfl
            replace hI := Lib.hid hI
            replace hk2 := Lib.hid hk2
            clear hwt
            refine wpOp_step rfl (fun K hK => ?_)
            go_simp
            exact hK _ _ ⟨_, by simp [updT, e3, e12], hk2.out.at_ rfl, hI.out⟩
          · -- operation 14
            have e3 : t 3 = .bool true := hk2 3 _ (hwt 3 (by kernel_rfl)) rfl
            have e13 : t 13 = .string tx := hk2 13 _ (hwt 13 (by kernel_rfl)) rfl
            replace hI := Lib.hid hI
            replace hk2 := Lib.hid hk2
            clear hwt
            refine wpOp_step rfl (fun K hK => ?_)
            go_simp
            exact hK _ _ ⟨_, by simp [updT, e3, e13], hk2.out.at_ rfl, hI.out⟩
          · -- operation 15
            have e3 : t 3 = .bool true := hk2 3 _ (hwt 3 (by kernel_rfl)) rfl
            have e11 : t 11 = .int .i64 (endV o) := hk2 11 _ (hwt 11 (by kernel_rfl)) rfl
            have e14 : t 14 = .int .i64 (tx.size : Int) := hk2 14 _ (hwt 14 (by kernel_rfl)) rfl
            replace hI := Lib.hid hI
            replace hk2 := Lib.hid hk2
            clear hwt
            refine wpOp_step rfl (fun K hK => ?_)
            go_simp
            exact hK _ _ ⟨_, by simp [updT, e3, e11, e14], hk2.out.at_ rfl, hI.out⟩
          · -- operation 16
            have e3 : t 3 = .bool true := hk2 3 _ (hwt 3 (by kernel_rfl)) rfl
            have e15 : t 15 = .bool (endV o == (tx.size : Int)) := hk2 15 _ (hwt 15 (by kernel_rfl)) rfl
            replace hI := Lib.hid hI
            replace hk2 := Lib.hid hk2
            clear hwt
            refine wpOp_step rfl (fun K hK => ?_)
            go_simp
            exact hK _ _ ⟨_, by simp [updT, e3, e15], hk2.out.at_ rfl, hI.out⟩
          · -- operation 17
            have e16 : t 16 = .bool (endV o == (tx.size : Int)) := hk2 16 _ (hwt 16 (by kernel_rfl)) rfl
            replace hI := Lib.hid hI
            replace hk2 := Lib.hid hk2
            clear hwt
            refine wpOp_step rfl (fun K hK => ?_)
            go_simp
            exact hK _ _ ⟨_, by simp [updT, e16], hk2.out.at_ rfl, hI.out⟩
        case fin =>
          intro f t W hall hk2 hI
          have e17 := hk2 17 _ (hall 17 (by omega)) rfl
          clear hk2 hall
          dsimp only
          rw [e17]
          go_wp2_with fail
          go_ret
          exact ⟨by rw [← hv.out]; rfl, bt hb0 hI⟩
  · rw [if_pos rfl]
    rw [hvd] at hV
    go_enter Tryz.func60, Tryz.ntmps60
    go_wp2_with fail
    refine (hV.out _).mono ?_
    rintro e w1 ⟨rfl, rfl⟩
    go_wp2_with fail
    refine (hR.out _).mono ?_
    rintro e w1 ⟨rfl, rfl⟩
    go_wp2_with fail
    go_ret
    exact ⟨rfl, hb0⟩
end Go.Proofs.YteefodibpjgicaaGreat
namespace Go.Proofs.YteefodibpjgicaaGreat
open Go.RowKit
end Go.Proofs.YteefodibpjgicaaGreat
namespace Go.Proofs.YteefodibpjgicaaGreat
open Go.RowKit
theorem allB_drop (l : List Nd) (i : Nat) (h : i < l.length) : M6.allB (l.drop i) = (M6.oneS l[i] && M6.allB (l.drop (i + 1))) := by
  rw [List.drop_eq_getElem_cons h, M6.allB_cons]
theorem all_drop (q : Nd → Bool) (l : List Nd) (i : Nat) (h : i < l.length) : (l.drop i).all q = (q l[i] && (l.drop (i + 1)).all q) := by
  rw [List.drop_eq_getElem_cons h, List.all_cons]
set_option maxHeartbeats 8000000 in
set_option maxRecDepth 100000 in
theorem ref06all (wt : Nat) : ∀ (S : Nat → Prop) (v : Value) (l : List Nd) (w : World), M3.weight l < wt → FitN l → (∀ b, S b → b < w.heap.size) → RepN S w v l →
    Calls Tryz.prog 40 #[v] w (BoolB (M6.allB l) w) := by
  induction wt with
  | zero => intro S v l w h; omega
  | succ wt ih =>
  intro S v l w hwt hfit hS hr
  obtain ⟨a, cap, rfl⟩ := hr.slice
  obtain ⟨_, hlc, hcm⟩ := hr.len
  replace ih := Lib.hid ih
  have h0 : Hid (M6.allB l = M6.allB (l.drop 0)) := rfl
  replace hfit := Lib.hid hfit
  obtain ⟨wo, rfl⟩ : ∃ wo : World, wo = w := ⟨_, rfl⟩
  go_enter Tryz.func40, Tryz.ntmps40
  go_wp2_with fail
  go_loopw [3, 4, 5, 6] (fun u3 _ _ _ wr => ∃ i : Nat, i ≤ l.length ∧ u3 = .int .i64 (i : Int) ∧ Hid (M6.allB l = M6.allB (l.drop i)) ∧ Below wo.heap.size wo wr) (fun u3 _ _ _ _ => l.length - (intOf u3).toNat)
  case atStart => exact ⟨0, by omega, rfl, h0, Below.refl _ _⟩
  case round =>
    obtain ⟨i, hi, rfl, hv, hb⟩ := hrel
    have hz := hb.size
    by_cases hlt : i < l.length
    · have hr1 := hr.below hS hb
      obtain ⟨b, off, va, vk, rfl, hSb, c0, c1, c2, c3, c4, hrv⟩ := hr1.at_ i hlt
      have hbl := hS b hSb
      have hmd := hv.out.trans (allB_drop l i hlt)
      obtain ⟨hf1, hf2⟩ := fitN_iff.1 hfit.out _ (List.getElem_mem hlt)
      have hwk := weight_mem (List.getElem_mem hlt)
      generalize l[i] = x at *
      obtain ⟨a1, e1, rfl⟩ := hrv.at_.slice
      obtain ⟨a2, e2, rfl⟩ := hrv.kids.slice
      obtain ⟨_, hlc2, hcm2⟩ := hrv.kids.len
      have hih := Lib.hid (fun W (hW : Below wr.heap.size wr W) => ih.out S (.slice a2 x.kids.length e2) x.kids W (by omega) hf2 (fun b h => by have := hS b h; have := hW.size; omega) (RepN.below (w := wr) (B := wr.heap.size) hrv.kids (fun b h => by have := hS b h; omega) hW))
      have hH := Lib.hid (fun W => ref06has x.text ⟨#[45, 45, 62]⟩ W (by have := hf1.2.1; omega) (by decide) (by decide))
      clear hv hr1
      have hone : M6.oneS x = (!((x.kind == 3) && M6.hasB [45, 45, 62] x.text.data.toList) && (x.kids.all (M6.fitsB x.name) && M6.allB x.kids)) := rfl
      rw [hone] at hmd
      clear hone
      replace hmd := Lib.hid hmd
      have hI0 : (0 : Int) ≤ (i : Int) := by omega
      have hI1 : (i : Int) < (l.length : Int) := by omega
      obtain ⟨rm, hrm⟩ : ∃ rm, ((x.kind == 3) && M6.hasB [45, 45, 62] x.text.data.toList) = rm := ⟨_, rfl⟩
      cases rm
      · -- it is no comment that ends in itself
        have hmd := hmd.out
        rw [hrm, Bool.not_false, Bool.true_and] at hmd
        replace hmd := Lib.hid hmd
        cases hk3 : (x.kind == 3)
        · go_wp2_with fail
          have hq0 : Hid (x.kids.all (M6.fitsB x.name) = (x.kids.drop 0).all (M6.fitsB x.name)) := rfl
          clear hH
          obtain ⟨wq, rfl⟩ : ∃ wq : World, wq = wr := ⟨_, rfl⟩
          go_loopw [4, 5] (fun u4 _ wr => ∃ k : Nat, k ≤ x.kids.length ∧ u4 = .int .i64 (k : Int) ∧ Hid (x.kids.all (M6.fitsB x.name) = (x.kids.drop k).all (M6.fitsB x.name)) ∧ Below wq.heap.size wq wr) (fun u4 _ _ => x.kids.length - (intOf u4).toNat)
          case atStart => exact ⟨0, by omega, rfl, hq0, Below.refl _ _⟩
          case round =>
            obtain ⟨k, hk, rfl, hv2, hb2⟩ := hrel
            have hz2 := hb2.size
            have c1' := cell_of_below hb2 c1 (by omega)
            have c4' := cell_of_below hb2 c4 (by omega)
            by_cases hlt2 : k < x.kids.length
            · have hrk := RepN.below (w := wq) (B := wq.heap.size) hrv.kids (fun b h => by have := hS b h; omega) hb2
              obtain ⟨b2, off2, va2, vk2, rfl, hSb2, d0, d1, d2, d3, d4, hrv2⟩ := hrk.at_ k hlt2
              have hmd2 := hv2.out.trans (all_drop _ x.kids k hlt2)
              obtain ⟨hg1, hg2⟩ := fitN_iff.1 hf2 _ (List.getElem_mem hlt2)
              generalize x.kids[k] = y at *
              obtain ⟨a3, e3, rfl⟩ := hrv2.at_.slice
              obtain ⟨a4, e4, rfl⟩ := hrv2.kids.slice
              have hF := Lib.hid (fun W => ref06Fits x.name y (.slice a3 y.attrs.length e3) (.slice a4 y.kids.length e4) W ⟨_, _, _, rfl⟩ ⟨_, _, _, rfl⟩ hf1.1 hg1.2.1)
              clear hv2 hrk hrv2
              have hK0 : (0 : Int) ≤ (k : Int) := by omega
              have hK1 : (k : Int) < (x.kids.length : Int) := by omega
              replace hmd2 := Lib.hid hmd2
              generalize M6.fitsB x.name y = q at *
              go_wp2_with fail
              go_still_tail 13, (by kernel_rfl)
              change wpList _ _ _ _ _ wr.drew
              go_wp2_with fail
              refine (hF.out _).mono ?_
              rintro e w3 ⟨rfl, hb3⟩
              have hbw3 : Below wq.heap.size wq w3 := bt hb2.drew hb3
              clear hF
              cases q
              · have hmd2 := hmd2.out
                rw [Bool.false_and] at hmd2
                have hmd := hmd.out
                rw [hmd2, Bool.false_and, Bool.false_and] at hmd
                replace hmd2 := Lib.hid hmd2
                replace hmd := Lib.hid hmd
                go_wp2_with fail
                go_ret
                exact ⟨by rw [hmd.out]; rfl, bt hb hbw3⟩
              · have hmd2 := hmd2.out
                rw [Bool.true_and] at hmd2
                replace hmd2 := Lib.hid hmd2
                go_wp2_with fail
                go_roundw
                case rel => exact ⟨k + 1, by omega, by go_num, hmd2, hbw3⟩
                case measure => exact meas_nat hlt2
            · obtain rfl : k = x.kids.length := by omega
              have hmd2 := hv2.out
              rw [List.drop_length, List.all_nil] at hmd2
              have hmd := hmd.out
              rw [hmd2, Bool.true_and] at hmd
              replace hmd := Lib.hid hmd
              replace hmd2 := Lib.hid hmd2
              have hk2 := Lib.hid (hih.out _ hb2)
              clear hih hv2
              go_wp2_with fail
              refine hk2.out.mono ?_
              rintro e w3 ⟨rfl, hb3⟩
              have hbw3 := bt hb (bt hb2 hb3)
              clear hk2
              generalize M6.allB x.kids = q at *
              cases q
              · have hmd := hmd.out
                rw [Bool.false_and] at hmd
                replace hmd := Lib.hid hmd
                go_wp2_with fail
                go_ret
                exact ⟨by rw [hmd.out]; rfl, hbw3⟩
              · have hmd := hmd.out
                rw [Bool.true_and] at hmd
                replace hmd := Lib.hid hmd
                go_wp2_with fail
                go_roundw
                case rel => exact ⟨i + 1, by omega, by go_num, hmd, hbw3⟩
                case measure => exact meas_nat hlt
        · rw [hk3, Bool.true_and] at hrm
          have hH := hH.out
          change ∀ W, Calls _ _ _ W fun e w' => e = .returned (.bool (M6.hasB [45, 45, 62] x.text.data.toList)) ∧ W = w' at hH
          rw [hrm] at hH
          replace hH := Lib.hid hH
          go_wp2_with fail
          refine (hH.out _).mono ?_
          rintro e w2 ⟨rfl, rfl⟩
          go_wp2_with fail
          have hq0 : Hid (x.kids.all (M6.fitsB x.name) = (x.kids.drop 0).all (M6.fitsB x.name)) := rfl
          clear hH
          obtain ⟨wq, rfl⟩ : ∃ wq : World, wq = wr := ⟨_, rfl⟩
          go_loopw [4, 5] (fun u4 _ wr => ∃ k : Nat, k ≤ x.kids.length ∧ u4 = .int .i64 (k : Int) ∧ Hid (x.kids.all (M6.fitsB x.name) = (x.kids.drop k).all (M6.fitsB x.name)) ∧ Below wq.heap.size wq wr) (fun u4 _ _ => x.kids.length - (intOf u4).toNat)
          case atStart => exact ⟨0, by omega, rfl, hq0, Below.refl _ _⟩
          case round =>
            obtain ⟨k, hk, rfl, hv2, hb2⟩ := hrel
            have hz2 := hb2.size
            have c1' := cell_of_below hb2 c1 (by omega)
            have c4' := cell_of_below hb2 c4 (by omega)
            by_cases hlt2 : k < x.kids.length
            · have hrk := RepN.below (w := wq) (B := wq.heap.size) hrv.kids (fun b h => by have := hS b h; omega) hb2
              obtain ⟨b2, off2, va2, vk2, rfl, hSb2, d0, d1, d2, d3, d4, hrv2⟩ := hrk.at_ k hlt2
              have hmd2 := hv2.out.trans (all_drop _ x.kids k hlt2)
              obtain ⟨hg1, hg2⟩ := fitN_iff.1 hf2 _ (List.getElem_mem hlt2)
              generalize x.kids[k] = y at *
              obtain ⟨a3, e3, rfl⟩ := hrv2.at_.slice
              obtain ⟨a4, e4, rfl⟩ := hrv2.kids.slice
              have hF := Lib.hid (fun W => ref06Fits x.name y (.slice a3 y.attrs.length e3) (.slice a4 y.kids.length e4) W ⟨_, _, _, rfl⟩ ⟨_, _, _, rfl⟩ hf1.1 hg1.2.1)
              clear hv2 hrk hrv2
              have hK0 : (0 : Int) ≤ (k : Int) := by omega
              have hK1 : (k : Int) < (x.kids.length : Int) := by omega
              replace hmd2 := Lib.hid hmd2
              generalize M6.fitsB x.name y = q at *
              go_wp2_with fail
              go_still_tail 13, (by kernel_rfl)
              change wpList _ _ _ _ _ wr.drew
              go_wp2_with fail
              refine (hF.out _).mono ?_
              rintro e w3 ⟨rfl, hb3⟩
              have hbw3 : Below wq.heap.size wq w3 := bt hb2.drew hb3
              clear hF
              cases q
              · have hmd2 := hmd2.out
                rw [Bool.false_and] at hmd2
                have hmd := hmd.out
                rw [hmd2, Bool.false_and, Bool.false_and] at hmd
                replace hmd2 := Lib.hid hmd2
                replace hmd := Lib.hid hmd
                go_wp2_with fail
                go_ret
                exact ⟨by rw [hmd.out]; rfl, bt hb hbw3⟩
              · have hmd2 := hmd2.out
                rw [Bool.true_and] at hmd2
                replace hmd2 := Lib.hid hmd2
                go_wp2_with fail
                go_roundw
                case rel => exact ⟨k + 1, by omega, by go_num, hmd2, hbw3⟩
                case measure => exact meas_nat hlt2
            · obtain rfl : k = x.kids.length := by omega
              have hmd2 := hv2.out
              rw [List.drop_length, List.all_nil] at hmd2
              have hmd := hmd.out
              rw [hmd2, Bool.true_and] at hmd
              replace hmd := Lib.hid hmd
              replace hmd2 := Lib.hid hmd2
              have hk2 := Lib.hid (hih.out _ hb2)
              clear hih hv2
              go_wp2_with fail
              refine hk2.out.mono ?_
              rintro e w3 ⟨rfl, hb3⟩
              have hbw3 := bt hb (bt hb2 hb3)
              clear hk2
              generalize M6.allB x.kids = q at *
              cases q
              · have hmd := hmd.out
                rw [Bool.false_and] at hmd
                replace hmd := Lib.hid hmd
                go_wp2_with fail
                go_ret
                exact ⟨by rw [hmd.out]; rfl, hbw3⟩
              · have hmd := hmd.out
                rw [Bool.true_and] at hmd
                replace hmd := Lib.hid hmd
                go_wp2_with fail
                go_roundw
                case rel => exact ⟨i + 1, by omega, by go_num, hmd, hbw3⟩
                case measure => exact meas_nat hlt
      · rw [Bool.and_eq_true] at hrm
        obtain ⟨hk3, hrm⟩ := hrm
        have hH := hH.out
        change ∀ W, Calls _ _ _ W fun e w' => e = .returned (.bool (M6.hasB [45, 45, 62] x.text.data.toList)) ∧ W = w' at hH
        have hmd := hmd.out
        rw [hrm] at hH
        rw [hk3, hrm, Bool.and_self, Bool.not_true, Bool.false_and, Bool.false_and] at hmd
        replace hH := Lib.hid hH
        replace hmd := Lib.hid hmd
        go_wp2_with fail
        refine (hH.out _).mono ?_
        rintro e w2 ⟨rfl, rfl⟩
        go_wp2_with fail
        go_ret
        exact ⟨by rw [hmd.out]; rfl, hb⟩
    · obtain rfl : i = l.length := by omega
      have hd := hv.out
      rw [List.drop_length, M6.allB_nil] at hd
      replace hd := Lib.hid hd
      clear hv
      go_wp2_with fail
      go_ret
      exact ⟨by rw [hd.out]; rfl, hb⟩
set_option maxHeartbeats 1000000 in
theorem ref06Stable (S : Nat → Prop) (v : Value) (l : List Nd) (w : World) (hf : FitN l) (hS : ∀ b, S b → b < w.heap.size) (hr : RepN S w v l) :
    Calls Tryz.prog 23 #[v] w (BoolB (M6.stableB l) w) := by
  have hM := Lib.hid (ref03May (M3.weight l + 1) S v l w (by omega) hf hS hr)
  have hL := Lib.hid (fun W (hb : Below w.heap.size w W) => ref06all (M3.weight l + 1) S v l W (by omega) hf (fun b h => Nat.lt_of_lt_of_le (hS b h) hb.size) (hr.below hS hb))
  unfold M6.stableB
  obtain ⟨a, cap, rfl⟩ := hr.slice
  clear hr
  generalize M6.allB l = q at *
  obtain ⟨wo, rfl⟩ : ∃ wo : World, wo = w := ⟨_, rfl⟩
  go_enter Tryz.func23, Tryz.ntmps23
  go_wp2_with fail
  refine hM.out.mono ?_
  rintro e w1 ⟨rfl, hb1⟩
  have hL1 := Lib.hid (hL.out w1 hb1)
  clear hL hM
  generalize M3.mayE false l = m at *
  cases hm : (m == 0)
  · go_wp2_with fail
    go_ret
    exact ⟨by rw [show decide (m = 0) = false from hm]; rfl, hb1⟩
  · go_wp2_with fail
    refine hL1.out.mono ?_
    rintro e w2 ⟨rfl, hb2⟩
    go_wp2_with fail
    go_ret
    exact ⟨by rw [show decide (m = 0) = true from hm]; rfl, bt hb1 hb2⟩
end Go.Proofs.YteefodibpjgicaaGreat
namespace Go.Proofs.YteefodibpjgicaaGreat
open Go.RowKit
end Go.Proofs.YteefodibpjgicaaGreat
namespace Go.Proofs.YteefodibpjgicaaGreat
open Go.RowKit
def ShrPost (S : Nat → Prop) (l : List Nd) (w : World) (e : Ending) (w' : World) : Prop := ∃ v', e = .returned v' ∧ RepN (fun b => S b ∨ (w.heap.size ≤ b ∧ b < w'.heap.size)) w' v' l ∧ Below w.heap.size w w'
theorem ShrPost.of_row {S : Nat → Prop} {w w' : World} {v' : Value} {L : List NV} (hS : ∀ b, S b → b < w.heap.size) (hown : w'.ownsRow w.heap.size 41 5 v' L.length (cellsV L)) (hb : Below w.heap.size w w') (hL : ∀ b ∈ L, RepV S w b.x b.va b.vk) : RepN (fun b => S b ∨ (w.heap.size ≤ b ∧ b < w'.heap.size)) w' v' (L.map NV.x) :=
  ⟨cellsV L, by rw [List.length_map]; exact Row.own hown (fun g hg => Or.inr (hown.lt g hg)), RepC.of_nv (fun b hb' => ((hL b hb').below hS hb).mono (fun c hc => Or.inl hc))⟩
theorem fitV_snoc (q : Nd → Bool) (L : List NV) (b : NV) : ((L ++ [b]).filter fun b => q b.x) = if q b.x = true then (L.filter fun b => q b.x) ++ [b] else L.filter fun b => q b.x := by
  rw [List.filter_append]
  cases h : q b.x <;> simp [h]
theorem fitV_map (q : Nd → Bool) (L : List NV) : (L.filter fun b => q b.x).map NV.x = (L.map NV.x).filter q := by
  rw [List.filter_map]; rfl
set_option maxHeartbeats 4000000 in
set_option maxRecDepth 100000 in
theorem ref06fittingV (S : Nat → Prop) (v : Value) (p : ByteArray) (L : List NV) (w : World) (hS : ∀ b, S b → b < w.heap.size) (hr : Row S w 5 v L.length (cellsV L)) (hok : ∀ b ∈ L, b.ok ∧ b.x.text.size ≤ 268435456) (hl : L.length ≤ 1000000) (hp : p.size ≤ 268435456) :
    Calls Tryz.prog 59 #[.string p, v] w (ShPost (L.filter fun b => M6.fitsB p b.x) w) := by
  obtain ⟨a, cap, rfl⟩ := hr.slice
  obtain ⟨_, hlc, hcm⟩ := hr.len
  replace hok := Lib.hid hok
  obtain ⟨wo, rfl⟩ : ∃ wo : World, wo = w := ⟨_, rfl⟩
  go_enter Tryz.func59, Tryz.ntmps59
  go_wp2_with (fail)
  go_loopw [5, 6, 7] (fun u5 u6 _ wr => ∃ (i : Nat) (A : List NV), i ≤ L.length ∧ u6 = .int .i64 (i : Int) ∧ Hid (A = (L.take i).filter fun b => M6.fitsB p b.x) ∧ wr.ownsRow wo.heap.size 41 5 u5 A.length (cellsV A) ∧ Below wo.heap.size wo wr) (fun _ u6 _ _ => L.length - (intOf u6).toNat)
  case atStart => exact ⟨0, [], by omega, rfl, rfl, World.ownsRow_nil _ _ _ _, Below.refl _ _⟩
  case round =>
    obtain ⟨i, A, hi, rfl, hA, hown, hb⟩ := hrel
    have hz := hb.size
    have hAl : A.length ≤ 1000000 := by rw [hA.out]; have := List.length_filter_le (fun b => M6.fitsB p b.x) (L.take i); have := List.length_take_le i L; omega
    by_cases hlt : i < L.length
    · obtain ⟨b, off, rfl, hSb, c0, c1, c2, c3, c4⟩ := (hr.below hS hb).atV i hlt
      have hbl := hS b hSb
      have htk : L.take (i + 1) = L.take i ++ [L[i]] := List.take_succ_eq_append_getElem hlt
      have hA2 : Hid (((L.take (i + 1)).filter fun b => M6.fitsB p b.x) = if M6.fitsB p L[i].x = true then A ++ [L[i]] else A) := by show _ = _; rw [htk, fitV_snoc, hA.out]
      obtain ⟨hkx, hkt⟩ := hok.out _ (List.getElem_mem hlt)
      clear hA htk
      generalize L[i] = x at *
      obtain ⟨⟨k, n, ats, t, ks⟩, va, vk⟩ := x
      obtain ⟨⟨a1, e1, hva⟩, a2, e2, hvk⟩ := hkx
      simp only [Nd.kind, Nd.name, Nd.text, Nd.attrs, Nd.kids] at c0 c1 c2 c3 c4 hva hvk
      subst hva
      subst hvk
      have hF := fun W => ref06Fits p (.mk k n ats t ks) (.slice a1 ats.length e1) (.slice a2 ks.length e2) W ⟨_, _, _, rfl⟩ ⟨_, _, _, rfl⟩ hp hkt
      change ∀ W, Calls Tryz.prog 60 #[.string p, .agg #[.int .i64 k, .string n, .slice a1 ats.length e1, .string t, .slice a2 ks.length e2]] W (BoolB _ W) at hF
      obtain ⟨q, hq⟩ : ∃ q, M6.fitsB p (.mk k n ats t ks) = q := ⟨_, rfl⟩
      rw [hq] at hF hA2
      clear hq
      replace hF := Lib.hid hF
      have hI0 : (0 : Int) ≤ (i : Int) := by omega
      have hI1 : (i : Int) < (L.length : Int) := by omega
      go_wp2_with (fail)
      refine (hF.out _).mono ?_
      rintro e w2 ⟨rfl, hb2⟩
      have hb3 := hb.trans (hb2.mono hz)
      have hown2 := own_below3 hown hb2
      have hz3 := hb3.size
      have d0 := cell_of_below hb2 c0 (by omega)
      have d1 := cell_of_below hb2 c1 (by omega)
      have d2 := cell_of_below hb2 c2 (by omega)
      have d3 := cell_of_below hb2 c3 (by omega)
      have d4 := cell_of_below hb2 c4 (by omega)
      clear c0 c1 c2 c3 c4 hF hown hb
      cases q
      · rw [if_neg Bool.false_ne_true] at hA2
        go_wp2_with (fail)
        go_roundw
        case rel => exact ⟨i + 1, A, by omega, by go_num, Lib.hid hA2.out.symm, hown2, hb3⟩
        case measure => exact meas_nat hlt
      · rw [if_pos rfl] at hA2
        go_wp2_with (at_builtin; refine wpList_appK _ [.int .i64 k, .string n, .slice a1 ats.length e1, .string t, .slice a2 ks.length e2] 5 rfl _ _ 25 41 rfl wo.heap.size Tryz.underlying25 infoN rfl (by omega) _ A.length (cellsV A) rfl hown2 _ rfl rfl rfl (five_one _ _ _ _ _ _ _ _ _) (by omega) (by omega) (by omega) ?_; intro g cp w3 hown3 hgrow3 hat3)
        have hb4 := below_own hb3 hown2 hgrow3 hz3 (Nat.le_refl _)
        have hown4 : w3.ownsRow wo.heap.size 41 5 (.slice (some ⟨g, 0, none⟩) (A.length + 1) cp) (A ++ [(⟨.mk k n ats t ks, .slice a1 ats.length e1, .slice a2 ks.length e2⟩ : NV)]).length (cellsV (A ++ [(⟨.mk k n ats t ks, .slice a1 ats.length e1, .slice a2 ks.length e2⟩ : NV)])) := by
          rw [cellsV_snoc, List.length_append]; exact hown3
        clear hown3 hgrow3 hat3
        go_roundw
        case rel => exact ⟨i + 1, A ++ [(⟨.mk k n ats t ks, .slice a1 ats.length e1, .slice a2 ks.length e2⟩ : NV)], by omega, by go_num, Lib.hid hA2.out.symm, hown4, hb4⟩
        case measure => exact meas_nat hlt
    · obtain rfl : i = L.length := by omega
      rw [List.take_length] at hA
      go_wp2_with (fail)
      go_ret
      exact ⟨u5, rfl, by rw [← hA.out]; exact hown, hb⟩
theorem ref06fitting (S : Nat → Prop) (v : Value) (p : ByteArray) (l : List Nd) (w : World) (hS : ∀ b, S b → b < w.heap.size) (hr : RepN S w v l) (hf : FitN l) (hl : l.length ≤ 1000000) (hp : p.size ≤ 268435456) :
    Calls Tryz.prog 59 #[.string p, v] w (ShrPost S (l.filter (M6.fitsB p)) w) := by
  obtain ⟨xs, hrow, hrc⟩ := hr
  obtain ⟨L, rfl, rfl, hL⟩ := RepC.nv _ _ hrc
  rw [List.length_map] at hrow hl
  refine (ref06fittingV S v p L w hS hrow (fun b hb => ⟨(hL b hb).ok, (fitN_iff.1 hf b.x (List.mem_map_of_mem hb)).1.2.1⟩) hl hp).mono ?_
  rintro e w1 ⟨v1, rfl, hown, hb⟩
  refine ⟨v1, rfl, ?_, hb⟩
  rw [← fitV_map]
  exact ShrPost.of_row hS hown hb (fun b hb' => hL b (List.mem_filter.1 hb').1)
theorem ref03MergeS (S : Nat → Prop) (v : Value) (l : List Nd) (w : World) (hS : ∀ b, S b → b < w.heap.size) (hr : RepN S w v l) (hl : l.length ≤ 1000000) (ht : txtN l ≤ 1073741824) :
    Calls Tryz.prog 50 #[v] w (ShrPost S (M3.merge l) w) := by
  obtain ⟨xs, hrow, hrc⟩ := hr
  obtain ⟨L, rfl, rfl, hL⟩ := RepC.nv _ _ hrc
  rw [List.length_map] at hrow hl
  refine (ref03MergeV S v L w hS hrow (fun b hb => (hL b hb).ok) hl (by rw [txtV_map]; exact ht)).mono ?_
  rintro e w1 ⟨v1, rfl, hown, hb⟩
  refine ⟨v1, rfl, ?_, hb⟩
  rw [← mergeV_map]
  refine ShrPost.of_row hS hown hb ?_
  have key : ∀ (l out : List NV), (∀ b ∈ l, RepV S w b.x b.va b.vk) → (∀ b ∈ out, RepV S w b.x b.va b.vk) → ∀ b ∈ l.foldl pushV out, RepV S w b.x b.va b.vk := by
    intro l
    induction l with
    | nil => intro out _ ho; exact ho
    | cons x r ih =>
      intro out hl ho
      rw [List.foldl_cons]
      refine ih _ (fun z hz => hl z (by simp [hz])) ?_
      have hx := hl x (by simp)
      cases hb : bareV x
      · rcases List.eq_nil_or_concat out with rfl | ⟨o, y, rfl⟩
        · rw [pushV_nil hb]; simpa using hx
        · rw [List.concat_eq_append] at ho ⊢
          rw [pushV_snoc hb]
          have hy := ho y (by simp)
          split
          · intro z hz
            rcases List.mem_append.1 hz with hz | hz
            · exact ho z (by simp [hz])
            · simp at hz; subst hz
              exact ⟨by show Row _ _ _ _ (M3.withText y.x _).attrs.length (cellsA (M3.withText y.x _).attrs); rw [M3.withText_attrs]; exact hy.1, by show RepN _ _ _ (M3.withText y.x _).kids; rw [M3.withText_kids]; exact hy.2⟩
          · intro z hz
            rcases List.mem_append.1 hz with hz | hz
            · exact ho z hz
            · simp at hz; subst hz; exact hx
      · rw [pushV_bare hb]; exact ho
  exact key L [] hL (fun b h => by cases h)
end Go.Proofs.YteefodibpjgicaaGreat
namespace Go.Proofs.YteefodibpjgicaaGreat
open Go.RowKit
theorem steadyQ_append (q : Nd → Bool) (a b : List Nd) : M6.steadyQ q (a ++ b) = M6.steadyQ q a ++ M6.steadyQ q b := by
  induction a with
  | nil => rw [M6.steadyQ_nil]; rfl
  | cons x r ih => rw [List.cons_append, M6.steadyQ_cons, M6.steadyQ_cons, ih, List.append_assoc]
theorem steadyQ_take (l : List Nd) (i : Nat) (h : i < l.length) : M6.steadyQ (fun _ => true) (l.take (i + 1)) = M6.steadyQ (fun _ => true) (l.take i) ++ (if M6.remB l[i] = true then [] else [M6.oneN l[i]]) := by
  rw [List.take_succ_eq_append_getElem h, steadyQ_append, M6.steadyQ_cons, M6.steadyQ_nil, List.append_nil, Bool.true_and]
  cases M6.remB l[i] <;> rfl
theorem steady_fit (q : Nd → Bool) (l : List Nd) : (M6.steady (l.filter q)).filter q = (M3.merge (M6.steadyQ q l)).filter q := by
  unfold M6.steady
  rw [← M6.steadyQ_filter]
def Sh (S : Nat → Prop) (w0 W : World) : Nat → Prop := fun b => S b ∨ (w0.heap.size ≤ b ∧ b < W.heap.size)
def StI (S : Nat → Prop) (w0 : World) (bx : Nat) (K : Nat → List Nd) (f : Nat → Bool) (t : Nat → Value) (W : World) : Prop :=
  (f 10 = false → Below w0.heap.size w0 W ∧ ∀ j, 6 ≤ j → j ≤ 8 → f j = true → RepN (Sh S w0 W) W (t j) (K j)) ∧
  (f 10 = true → (∀ j, j < 10 → f j = true) ∧ ∃ W0, Below w0.heap.size w0 W0 ∧ RepN (Sh S w0 W0) W0 (t 8) (K 8) ∧ W = W0.setCell ⟨bx, 4, none⟩ (t 8))
section
variable {S : Nat → Prop} {w0 W : World} {bx : Nat} {K : Nat → List Nd} {f : Nat → Bool} {t : Nat → Value}
theorem StI.start (S : Nat → Prop) (w0 : World) (bx : Nat) (K : Nat → List Nd) (t : Nat → Value) : StI S w0 bx K (fun j => decide (11 ≤ j)) t w0.drew :=
  ⟨fun _ => ⟨(Below.refl _ w0).drew, fun j h6 h8 h => by simp at h; omega⟩, fun h => by simp at h⟩
theorem StI.notlast (h : StI S w0 bx K f t W) {j : Nat} (hj : j < 11) (hf : f j = false) : f 10 = false := by
  cases h10 : f 10
  · rfl
  · rcases Nat.lt_or_ge j 10 with hl | hl
    · have := (h.2 h10).1 j hl
      rw [hf] at this
      cases this
    · obtain rfl : j = 10 := by omega
      rw [h10] at hf
      cases hf
theorem StI.same (h : StI S w0 bx K f t W) (j : Nat) (v : Value) (h1 : j < 6 ∨ j = 9) : StI S w0 bx K (updF f j) (updT t j v) W := by
  refine ⟨fun e => ?_, fun e => ?_⟩
  · rw [updF_ne f (by omega)] at e
    refine ⟨(h.1 e).1, fun k h6 h8 hk => ?_⟩
    rw [updF_ne f (by omega)] at hk
    rw [updT_ne _ _ (by omega)]
    exact (h.1 e).2 k h6 h8 hk
  · rw [updF_ne f (by omega)] at e
    obtain ⟨e1, e2⟩ := h.2 e
    rw [updT_ne _ _ (by omega)]
    exact ⟨fun k hk => by unfold updF; split; rfl; exact e1 k hk, e2⟩
theorem StI.call (h : StI S w0 bx K f t W) (h10 : f 10 = false) (hS : ∀ b, S b → b < w0.heap.size) {j : Nat} (h6 : 6 ≤ j) (h8 : j ≤ 8) {W' : World} {v : Value} (hv : RepN (fun b => Sh S w0 W b ∨ (W.heap.size ≤ b ∧ b < W'.heap.size)) W' v (K j)) (hb : Below W.heap.size W W') : StI S w0 bx K (updF f j) (updT t j v) W' := by
  obtain ⟨q1, q2⟩ := h.1 h10
  have hz := q1.size
  have hz2 := hb.size
  refine ⟨fun _ => ⟨bt q1 hb, fun k k6 k8 hk => ?_⟩, fun e => ?_⟩
  · by_cases e : k = j
    · subst e
      rw [updT_same]
      refine hv.mono (fun b hb' => ?_)
      rcases hb' with (hb' | hb') | hb'
      · exact Or.inl hb'
      · exact Or.inr ⟨hb'.1, by omega⟩
      · exact Or.inr ⟨by omega, hb'.2⟩
    · rw [updF_ne f e] at hk
      rw [updT_ne _ _ e]
      refine (RepN.below (q2 k k6 k8 hk) (fun b hb' => ?_) hb).mono (fun b hb' => ?_)
      · rcases hb' with hb' | hb'
        · have := hS b hb'; omega
        · exact hb'.2
      · rcases hb' with hb' | hb'
        · exact Or.inl hb'
        · exact Or.inr ⟨hb'.1, by omega⟩
  · rw [updF_ne f (by omega), h10] at e
    cases e
theorem StI.put (h : StI S w0 bx K f t W) (h10 : f 10 = false) (hall : ∀ j, j < 10 → f j = true) (v : Value) : StI S w0 bx K (updF f 10) (updT t 10 v) (W.setCell ⟨bx, 4, none⟩ (t 8)) := by
  obtain ⟨q1, q2⟩ := h.1 h10
  refine ⟨fun e => by simp at e, fun _ => ⟨fun k hk => by unfold updF; split; rfl; exact hall k hk, W, q1, ?_, ?_⟩⟩
  · rw [updT_ne _ _ (by omega)]; exact q2 8 (by omega) (by omega) (hall 8 (by omega))
  · rw [updT_ne _ _ (by omega)]
end
def K3 (l1 l2 l3 : List Nd) (j : Nat) : List Nd := bif j == 6 then l1 else bif j == 7 then l2 else l3
def ShV (S : Nat → Prop) (B : Nat) (u : Value) (W : World) : Nat → Prop := fun c => (S c ∨ (B ≤ c ∧ c < W.heap.size)) ∧ u.ownBlock ≠ some c
theorem shv_grow {S : Nat → Prop} {B g n cap : Nat} {u : Value} {W w3 : World} {A : List NV} (hS : ∀ b, S b → b < B) (hB : B ≤ W.heap.size) (h : ∀ b ∈ A, RepV (ShV S B u W) W b.x b.va b.vk) (hgrow : W.grownBy w3 u.ownBlock) (hat : u.ownBlock = some g ∨ W.heap.size ≤ g) :
    ∀ b ∈ A, RepV (ShV S B (.slice (some ⟨g, 0, none⟩) n cap) w3) w3 b.x b.va b.vk := by
  intro b hb
  have hz := hgrow.size
  have hlt : ∀ c, ShV S B u W c → c < W.heap.size := fun c hc => by
    rcases hc.1 with hc | hc
    · have := hS c hc; omega
    · exact hc.2
  refine ((h b hb).keep (w' := w3) (fun c hc => hgrow.block c (hlt c hc) (fun e => hc.2 e.symm))).mono (fun c hc => ⟨?_, fun e => ?_⟩)
  · rcases hc.1 with hc | hc
    · exact Or.inl hc
    · exact Or.inr ⟨hc.1, by omega⟩
  · have e : g = c := by simpa [Value.ownBlock] using e
    rcases hat with h | h
    · exact hc.2 (by rw [h, e])
    · have := hlt c hc; omega
theorem shv_below {S : Nat → Prop} {B : Nat} {u : Value} {wr W : World} {A : List NV} (hS : ∀ b, S b → b < B) (hB : B ≤ wr.heap.size) (h : ∀ b ∈ A, RepV (ShV S B u wr) wr b.x b.va b.vk) (hb : Below wr.heap.size wr W) :
    ∀ b ∈ A, RepV (ShV S B u W) W b.x b.va b.vk := by
  intro b hm
  have hz := hb.size
  refine ((h b hm).below (fun c hc => ?_) hb).mono (fun c hc => ⟨?_, hc.2⟩)
  · rcases hc.1 with hc | hc
    · have := hS c hc; omega
    · exact hc.2
  · rcases hc.1 with hc | hc
    · exact Or.inl hc
    · exact Or.inr ⟨hc.1, by omega⟩
theorem ownB_ne {w : World} {B : Nat} {e : TypeId} {k n : Nat} {v : Value} {xs : List Value} (h : w.ownsRow B e k v n xs) {c : Nat} (hc : c < B ∨ w.heap.size ≤ c) : v.ownBlock ≠ some c := fun e => by
  have := h.lt c e
  omega
set_option maxHeartbeats 8000000 in
set_option maxRecDepth 100000 in
theorem ref06Steady (wt : Nat) : ∀ (S : Nat → Prop) (v : Value) (l : List Nd) (w : World), M3.weight l < wt → M3.weight l ≤ 1000000 → FitN l → dtN l ≤ 268435456 → (∀ b, S b → b < w.heap.size) → RepN S w v l →
    Calls Tryz.prog 39 #[v] w (ShrPost S (M6.steady l) w) := by
  induction wt with
  | zero => intro S v l w h; omega
  | succ wt ih =>
  intro S v l w hwt hw6 hfit hdt hS hr
  obtain ⟨a, cap, rfl⟩ := hr.slice
  obtain ⟨_, hlc, hcm⟩ := hr.len
  have hll := M3.length_le_weight l
  replace ih := Lib.hid ih
  have h0 : Hid (([] : List NV).map NV.x = M6.steadyQ (fun _ => true) (l.take 0)) := by show _ = _; rw [List.take_zero, M6.steadyQ_nil]; rfl
  replace hfit := Lib.hid hfit
  obtain ⟨wo, rfl⟩ : ∃ wo : World, wo = w := ⟨_, rfl⟩
  go_enter Tryz.func39, Tryz.ntmps39
  go_wp2_with fail
  go_loopw [3, 4, 5] (fun u3 u4 _ wr => ∃ (i : Nat) (A : List NV), i ≤ l.length ∧ u4 = .int .i64 (i : Int) ∧ Hid (A.map NV.x = M6.steadyQ (fun _ => true) (l.take i)) ∧ wr.ownsRow wo.heap.size 41 5 u3 A.length (cellsV A) ∧ (∀ b ∈ A, RepV (ShV S wo.heap.size u3 wr) wr b.x b.va b.vk) ∧ Below wo.heap.size wo wr) (fun _ u4 _ _ => l.length - (intOf u4).toNat)
  case atStart => exact ⟨0, [], by omega, rfl, h0, World.ownsRow_nil _ _ _ _, (fun b h => nomatch h), Below.refl _ _⟩
  case round =>
    obtain ⟨i, A, hi, rfl, hA, hown, hAr, hb⟩ := hrel
    have hz := hb.size
    have hAl : A.length ≤ 1000000 := by
      have h1 : A.length = (M6.steadyQ (fun _ => true) (l.take i)).length := by rw [← hA.out, List.length_map]
      have h2 := M3.length_le_weight (M6.steadyQ (fun _ => true) (l.take i))
      have h3 := (steadyQ_sizes (l.take i) (fun _ => true)).1
      have h4 : M3.weight l = M3.weight (l.take i) + M3.weight (l.drop i) := by rw [← M3.weight_append, List.take_append_drop]
      omega
    replace hAr := Lib.hid hAr
    by_cases hlt : i < l.length
    · have hr1 := hr.below hS hb
      obtain ⟨b, off, va, vk, rfl, hSb, c0, c1, c2, c3, c4, hrv⟩ := hr1.at_ i hlt
      have hbl := hS b hSb
      have hmd := (steadyQ_take l i hlt).trans (by rw [← hA.out])
      obtain ⟨hf1, hf2⟩ := fitN_iff.1 hfit.out _ (List.getElem_mem hlt)
      have hwk := weight_le (List.getElem_mem hlt)
      have hdk := dt_mem (List.getElem_mem hlt)
      generalize l[i] = x at *
      obtain ⟨k, n, ats, tx, ks⟩ := x
      simp only [Nd.kind, Nd.name, Nd.text, Nd.attrs, Nd.kids] at c0 c1 c2 c3 c4 hwk hdk hf2
      obtain ⟨a1, e1, hva⟩ := hrv.at_.slice
      obtain ⟨a2, e2, hvk⟩ := hrv.kids.slice
      simp only [Nd.attrs, Nd.kids] at hva hvk
      subst hva
      subst hvk
      have hH := Lib.hid (fun W => ref06has tx ⟨#[45, 45, 62]⟩ W (by have := hf1.2.1; have h : tx.size ≤ 268435456 := this; omega) (by decide) (by decide))
      have hrm0 : M6.remB (.mk k n ats tx ks) = ((k == 3) && M6.hasB [45, 45, 62] tx.data.toList) := rfl
      clear hA hr1
      have hI0 : (0 : Int) ≤ (i : Int) := by omega
      have hI1 : (i : Int) < (l.length : Int) := by omega
      have bx := Box.new wr 41 [.int .i64 k, .string n, .slice a1 ats.length e1, .string tx, .slice a2 ks.length e2]
      have hbx : Below wr.heap.size wr (wr.alloc (.cells #[.int .i64 k, .string n, .slice a1 ats.length e1, .string tx, .slice a2 ks.length e2] 41)) := (Below.refl _ wr).alloc (Nat.le_refl _) _
      have hsz : (wr.alloc (.cells #[.int .i64 k, .string n, .slice a1 ats.length e1, .string tx, .slice a2 ks.length e2] 41)).heap.size = wr.heap.size + 1 := by simp
      cases hk1 : (k == 1)
      · -- no element
        have hone : M6.oneN (.mk k n ats tx ks) = .mk k n ats tx ks := by unfold M6.oneN; rw [if_neg (by show ¬ k = 1; simpa using hk1)]
        rw [hone] at hmd
        clear hone
        cases hrm : M6.remB (.mk k n ats tx ks)
        · rw [hrm, if_neg Bool.false_ne_true] at hmd
          have hnext : Hid ((A ++ [(⟨.mk k n ats tx ks, .slice a1 ats.length e1, .slice a2 ks.length e2⟩ : NV)]).map NV.x = M6.steadyQ (fun _ => true) (l.take (i + 1))) := by show _ = _; rw [hmd, List.map_append]; rfl
          clear hmd
          replace hsz := Lib.hid hsz
          cases hk3 : (k == 3)
          · have hbW := hbx
            replace hAr := hAr.out
            clear hH bx
            have hz5 := hbW.size
            have hown5 := own_below3 hown (hbW)
            have hA5 := Lib.hid (shv_below hS hz hAr hbW)
            have hbo := bt hb hbW
            have hzo := hbo.size
            replace hAr := Lib.hid hAr
            go_wp2_with (at_builtin; refine wpList_appK _ [.int .i64 k, .string n, .slice a1 ats.length e1, .string tx, .slice a2 ks.length e2] 5 rfl _ _ 25 41 rfl wo.heap.size Tryz.underlying25 infoN rfl (by omega) _ A.length (cellsV A) rfl hown5 (wr.heap.size + 1) hsz.out (by rfl) rfl (five_one _ _ _ _ _ _ _ _ _) (by omega) (by omega) hzo ?_; intro g cp w6 hown6 hgrow6 hat6)
            have hb6 := below_own hbo hown5 hgrow6 hzo (Nat.le_refl _)
            have hA6 := shv_grow (n := A.length + 1) (cap := cp) hS hzo hA5.out hgrow6 hat6
            have hx6 := shv_grow (A := [(⟨.mk k n ats tx ks, .slice a1 ats.length e1, .slice a2 ks.length e2⟩ : NV)]) (n := A.length + 1) (cap := cp) hS hzo (fun b hb => by
              rw [List.mem_singleton] at hb
              subst hb
              exact ⟨((hrv.at_).below (fun c hc => by have := hS c hc; omega) hbW).mono (fun c hc => ⟨Or.inl hc, ownB_ne hown5 (Or.inl (hS c hc))⟩), (RepN.below hrv.kids (fun c hc => by have := hS c hc; omega) hbW).mono (fun c hc => ⟨Or.inl hc, ownB_ne hown5 (Or.inl (hS c hc))⟩)⟩) hgrow6 hat6
            have hown7 : w6.ownsRow wo.heap.size 41 5 (.slice (some ⟨g, 0, none⟩) (A.length + 1) cp) (A ++ [(⟨.mk k n ats tx ks, .slice a1 ats.length e1, .slice a2 ks.length e2⟩ : NV)]).length (cellsV (A ++ [(⟨.mk k n ats tx ks, .slice a1 ats.length e1, .slice a2 ks.length e2⟩ : NV)])) := by
              rw [cellsV_snoc, List.length_append]; exact hown6
            have hA7 : ∀ b ∈ A ++ [(⟨.mk k n ats tx ks, .slice a1 ats.length e1, .slice a2 ks.length e2⟩ : NV)], RepV (ShV S wo.heap.size (.slice (some ⟨g, 0, none⟩) (A.length + 1) cp) w6) w6 b.x b.va b.vk := fun b hb => by
              rcases List.mem_append.1 hb with hb | hb
              · exact hA6 b hb
              · exact hx6 b hb
            clear hown6 hgrow6 hat6 hA6 hx6 hown5 hA5
            replace hA7 := Lib.hid hA7
            go_roundw
            case rel => exact ⟨i + 1, A ++ [(⟨.mk k n ats tx ks, .slice a1 ats.length e1, .slice a2 ks.length e2⟩ : NV)], by omega, by go_num, hnext, hown7, hA7.out, hb6⟩
            case measure => exact meas_nat hlt
          · rw [hrm0, hk3, Bool.true_and] at hrm
            have hH := hH.out
            change ∀ W, Calls _ _ _ W fun e w' => e = .returned (.bool (M6.hasB [45, 45, 62] tx.data.toList)) ∧ W = w' at hH
            rw [hrm] at hH
            replace hH := Lib.hid hH
            go_wp2_with fail
            refine (hH.out _).mono ?_
            rintro e w2 ⟨rfl, rfl⟩
            have hbW := hbx
            replace hAr := hAr.out
            clear hH bx
            have hz5 := hbW.size
            have hown5 := own_below3 hown (hbW)
            have hA5 := Lib.hid (shv_below hS hz hAr hbW)
            have hbo := bt hb hbW
            have hzo := hbo.size
            replace hAr := Lib.hid hAr
            go_wp2_with (at_builtin; refine wpList_appK _ [.int .i64 k, .string n, .slice a1 ats.length e1, .string tx, .slice a2 ks.length e2] 5 rfl _ _ 25 41 rfl wo.heap.size Tryz.underlying25 infoN rfl (by omega) _ A.length (cellsV A) rfl hown5 (wr.heap.size + 1) hsz.out (by rfl) rfl (five_one _ _ _ _ _ _ _ _ _) (by omega) (by omega) hzo ?_; intro g cp w6 hown6 hgrow6 hat6)
            have hb6 := below_own hbo hown5 hgrow6 hzo (Nat.le_refl _)
            have hA6 := shv_grow (n := A.length + 1) (cap := cp) hS hzo hA5.out hgrow6 hat6
            have hx6 := shv_grow (A := [(⟨.mk k n ats tx ks, .slice a1 ats.length e1, .slice a2 ks.length e2⟩ : NV)]) (n := A.length + 1) (cap := cp) hS hzo (fun b hb => by
              rw [List.mem_singleton] at hb
              subst hb
              exact ⟨((hrv.at_).below (fun c hc => by have := hS c hc; omega) hbW).mono (fun c hc => ⟨Or.inl hc, ownB_ne hown5 (Or.inl (hS c hc))⟩), (RepN.below hrv.kids (fun c hc => by have := hS c hc; omega) hbW).mono (fun c hc => ⟨Or.inl hc, ownB_ne hown5 (Or.inl (hS c hc))⟩)⟩) hgrow6 hat6
            have hown7 : w6.ownsRow wo.heap.size 41 5 (.slice (some ⟨g, 0, none⟩) (A.length + 1) cp) (A ++ [(⟨.mk k n ats tx ks, .slice a1 ats.length e1, .slice a2 ks.length e2⟩ : NV)]).length (cellsV (A ++ [(⟨.mk k n ats tx ks, .slice a1 ats.length e1, .slice a2 ks.length e2⟩ : NV)])) := by
              rw [cellsV_snoc, List.length_append]; exact hown6
            have hA7 : ∀ b ∈ A ++ [(⟨.mk k n ats tx ks, .slice a1 ats.length e1, .slice a2 ks.length e2⟩ : NV)], RepV (ShV S wo.heap.size (.slice (some ⟨g, 0, none⟩) (A.length + 1) cp) w6) w6 b.x b.va b.vk := fun b hb => by
              rcases List.mem_append.1 hb with hb | hb
              · exact hA6 b hb
              · exact hx6 b hb
            clear hown6 hgrow6 hat6 hA6 hx6 hown5 hA5
            replace hA7 := Lib.hid hA7
            go_roundw
            case rel => exact ⟨i + 1, A ++ [(⟨.mk k n ats tx ks, .slice a1 ats.length e1, .slice a2 ks.length e2⟩ : NV)], by omega, by go_num, hnext, hown7, hA7.out, hb6⟩
            case measure => exact meas_nat hlt
        · rw [hrm, if_pos rfl, List.append_nil] at hmd
          rw [hrm0, Bool.and_eq_true] at hrm
          obtain ⟨hk3, hrm⟩ := hrm
          have hH := hH.out
          change ∀ W, Calls _ _ _ W fun e w' => e = .returned (.bool (M6.hasB [45, 45, 62] tx.data.toList)) ∧ W = w' at hH
          rw [hrm] at hH
          replace hH := Lib.hid hH
          replace hmd := Lib.hid hmd.symm
          go_wp2_with fail
          refine (hH.out _).mono ?_
          rintro e w2 ⟨rfl, rfl⟩
          have hA5 := Lib.hid (shv_below hS hz hAr.out hbx)
          have hown5 := own_below3 hown hbx
          have hbo := bt hb hbx
          go_wp2_with fail
          go_roundw
          case rel => exact ⟨i + 1, A, by omega, by go_num, hmd, hown5, hA5.out, hbo⟩
          case measure => exact meas_nat hlt
      · -- an element
        obtain rfl : k = 1 := by simpa using hk1
        have hrm : M6.remB (.mk 1 n ats tx ks) = false := rfl
        rw [hrm, if_neg Bool.false_ne_true] at hmd
        have hone : M6.oneN (.mk 1 n ats tx ks) = .mk 1 n ats tx ((M6.steady (ks.filter (M6.fitsB n))).filter (M6.fitsB n)) := by
          rw [steady_fit]
          rfl
        rw [hone] at hmd
        clear hone hrm hrm0
        have hwf := weight_filter (M6.fitsB n) ks
        have hdf := dt_filter (M6.fitsB n) ks
        have hff := fit_filter (M6.fitsB n) hf2
        have hsf := fit_steady hff (by omega)
        obtain ⟨hs1, hs2⟩ := steady_sizes (ks.filter (M6.fitsB n))
        have hlk := M3.length_le_weight ks
        have hls := M3.length_le_weight (M6.steady (ks.filter (M6.fitsB n)))
        have hn6 : n.size ≤ 268435456 := hf1.1
        have hkr : RepN S wr (.slice a2 ks.length e2) ks := hrv.kids
        have hF1 := Lib.hid (fun W (v : Value) (S' : Nat → Prop) (hS' : ∀ b, S' b → b < W.heap.size) (h : RepN S' W v ks) => ref06fitting S' v n ks W hS' h hf2 (by omega) hn6)
        have hF2 := Lib.hid (fun W (v : Value) (S' : Nat → Prop) (hS' : ∀ b, S' b → b < W.heap.size) (h : RepN S' W v (ks.filter (M6.fitsB n))) => ih.out S' v (ks.filter (M6.fitsB n)) W (by omega) (by omega) hff (by omega) hS' h)
        have hF3 := Lib.hid (fun W (v : Value) (S' : Nat → Prop) (hS' : ∀ b, S' b → b < W.heap.size) (h : RepN S' W v (M6.steady (ks.filter (M6.fitsB n)))) => ref06fitting S' v n (M6.steady (ks.filter (M6.fitsB n))) W hS' h hsf (by omega) hn6)
        generalize hl3 : (M6.steady (ks.filter (M6.fitsB n))).filter (M6.fitsB n) = l3 at *
        generalize M6.steady (ks.filter (M6.fitsB n)) = l2 at *
        generalize ks.filter (M6.fitsB n) = l1 at *
        clear hwf hdf hff hsf hs1 hs2 hls hl3
        go_wp2_with fail
        obtain ⟨w0, hw0⟩ : ∃ W, wr.alloc (.cells #[.int .i64 1, .string n, .slice a1 ats.length e1, .string tx, .slice a2 ks.length e2] 41) = W := ⟨_, rfl⟩
        change Box (wr.alloc (.cells #[.int .i64 1, .string n, .slice a1 ats.length e1, .string tx, .slice a2 ks.length e2] 41)) _ _ _ at bx
        rw [hw0] at bx hbx hsz ⊢
        clear hw0
        have p1 := bx.cell (i := 1) rfl
        have p4 := bx.cell (i := 4) rfl
        have f4 := bx.free 4
        have hSw : ∀ b, S b → b < w0.heap.size := fun b hb => by have := hS b hb; omega
        have hnext : ∀ A8 C8, Hid ((A ++ [(⟨.mk 1 n ats tx l3, .slice a1 ats.length e1, .slice A8 l3.length C8⟩ : NV)]).map NV.x = M6.steadyQ (fun _ => true) (l.take (i + 1))) := fun _ _ => by show _ = _; rw [hmd, List.map_append]; rfl
        clear hmd
        refine wp_region_known (n := 11) ([some (.pointer (some ⟨wr.heap.size, 1, none⟩)), some (.string n), some (.pointer (some ⟨wr.heap.size, 1, none⟩)), some (.string n), some (.pointer (some ⟨wr.heap.size, 4, none⟩)), some (.slice a2 ks.length e2), none, none, none, some (.pointer (some ⟨wr.heap.size, 4, none⟩)), none] : List (Option Value)) (fun t => ⟨#[Value.slice (some ⟨b, off, none⟩) l.length cap, undef, Value.slice none 0 0, u3, Value.int IntKind.i64 (i : Int), Value.pointer (some ⟨wr.heap.size, 0, none⟩), Value.int IntKind.i64 (i : Int), Value.slice (some ⟨b, off, none⟩) l.length cap, Value.int IntKind.i64 (l.length : Int), Value.bool true, u10, u11, Value.slice (some ⟨b, off, none⟩) l.length cap, Value.int IntKind.i64 (i : Int), Value.pointer (some ⟨b, off + i * 5, none⟩), Value.agg #[Value.int IntKind.i64 1, Value.string n, Value.slice a1 ats.length e1, Value.string tx, Value.slice a2 ks.length e2], Value.pointer (some ⟨wr.heap.size, 0, none⟩), Value.int IntKind.i64 1, Value.bool false, Value.bool false, undef, undef, undef, Value.bool false, Value.pointer (some ⟨wr.heap.size, 0, none⟩), Value.int IntKind.i64 1, Value.bool true, t 0, t 1, t 2, t 3, t 4, t 5, t 6, t 7, t 8, t 9, u37, u38, u39, u40, undef, undef], []⟩) (fun f t W => StI S w0 wr.heap.size (K3 l1 l2 l3) f t W) (fun j => match j with | 0 => u27 | 1 => u28 | 2 => u29 | 3 => u30 | 4 => u31 | 5 => u32 | 6 => u33 | 7 => u34 | 8 => u35 | 9 => u36 | _ => undef) (by kernel_rfl) (by rfl) (by rfl) (by kernel_rfl) rfl ?i0 ?step ?fin
        case i0 =>
          exact StI.start _ _ _ _ _
        case step =>
          intro j0 hj0 f t W hfi hwt hk2 hI
          have h10 := hI.notlast hj0 hfi
          obtain ⟨hlow, hKn⟩ := hI.1 h10
          have s1 := cell_of_below hlow p1 (by omega)
          have s4 := cell_of_below hlow p4 (by omega)
          have hlz := hlow.size
          obtain rfl | rfl | rfl | rfl | rfl | rfl | rfl | rfl | rfl | rfl | rfl : j0 = 0 ∨ j0 = 1 ∨ j0 = 2 ∨ j0 = 3 ∨ j0 = 4 ∨ j0 = 5 ∨ j0 = 6 ∨ j0 = 7 ∨ j0 = 8 ∨ j0 = 9 ∨ j0 = 10 := by omega
          · -- operation 0
            clear hKn hlow hlz h10
            replace hI := Lib.hid hI
            replace hk2 := Lib.hid hk2
            clear hwt
            refine wpOp_step rfl (fun K hK => ?_)
            go_simp
            exact hK _ _ ⟨_, by simp [updT], hk2.out.at_ rfl, hI.out.same _ _ (by decide)⟩
          · -- operation 1
            have e0 : t 0 = .pointer (some ⟨wr.heap.size, 1, none⟩) := hk2 0 _ (hwt 0 (by kernel_rfl)) rfl
            clear hKn hlow hlz h10
            replace hI := Lib.hid hI
            replace hk2 := Lib.hid hk2
            clear hwt
            refine wpOp_step rfl (fun K hK => ?_)
            go_simp
            exact hK _ _ ⟨_, by simp [updT, e0], hk2.out.at_ rfl, hI.out.same _ _ (by decide)⟩
          · -- operation 2
            clear hKn hlow hlz h10
            replace hI := Lib.hid hI
            replace hk2 := Lib.hid hk2
            clear hwt
            refine wpOp_step rfl (fun K hK => ?_)
            go_simp
            exact hK _ _ ⟨_, by simp [updT], hk2.out.at_ rfl, hI.out.same _ _ (by decide)⟩
          · -- operation 3
            have e2 : t 2 = .pointer (some ⟨wr.heap.size, 1, none⟩) := hk2 2 _ (hwt 2 (by kernel_rfl)) rfl
            clear hKn hlow hlz h10
            replace hI := Lib.hid hI
            replace hk2 := Lib.hid hk2
            clear hwt
            refine wpOp_step rfl (fun K hK => ?_)
            go_simp
            exact hK _ _ ⟨_, by simp [updT, e2], hk2.out.at_ rfl, hI.out.same _ _ (by decide)⟩
          · -- operation 4
            clear hKn hlow hlz h10
            replace hI := Lib.hid hI
            replace hk2 := Lib.hid hk2
            clear hwt
            refine wpOp_step rfl (fun K hK => ?_)
            go_simp
            exact hK _ _ ⟨_, by simp [updT], hk2.out.at_ rfl, hI.out.same _ _ (by decide)⟩
          · -- operation 5
            have e4 : t 4 = .pointer (some ⟨wr.heap.size, 4, none⟩) := hk2 4 _ (hwt 4 (by kernel_rfl)) rfl
            clear hKn hlow hlz h10
            replace hI := Lib.hid hI
            replace hk2 := Lib.hid hk2
            clear hwt
            refine wpOp_step rfl (fun K hK => ?_)
            go_simp
            exact hK _ _ ⟨_, by simp [updT, e4], hk2.out.at_ rfl, hI.out.same _ _ (by decide)⟩
          · -- operation 6
            have e3 : t 3 = .string n := hk2 3 _ (hwt 3 (by kernel_rfl)) rfl
            have e5 : t 5 = .slice a2 ks.length e2 := hk2 5 _ (hwt 5 (by kernel_rfl)) rfl
            have hSh : ∀ b, Sh S w0 W b → b < W.heap.size := fun b hb => by rcases hb with hb | hb; (have := hSw b hb; omega); exact hb.2
            have hC := Lib.hid (hF1.out W (.slice a2 ks.length e2) (Sh S w0 W) hSh ((hkr.below (fun b hb => by have := hS b hb; omega) (bt hbx hlow)).mono (fun b hb => Or.inl hb)))
            clear hKn hSh
            replace hk2 := Lib.hid hk2
            replace hI := Lib.hid hI
            clear hwt
            refine wpOp_step rfl (fun K hK => ?_)
            go_simp
            refine hC.out.mono ?_
            rintro e w5 ⟨v5, rfl, hr5, hb5⟩
            exact hK _ _ ⟨v5, by simp [updT, e3, e5], hk2.out.free rfl, hI.out.call h10 hSw (by decide) (by decide) hr5 hb5⟩
          · -- operation 7
            have hSh : ∀ b, Sh S w0 W b → b < W.heap.size := fun b hb => by rcases hb with hb | hb; (have := hSw b hb; omega); exact hb.2
            have hC := Lib.hid (hF2.out W (t 6) (Sh S w0 W) hSh (hKn 6 (by decide) (by decide) (hwt 6 (by kernel_rfl))))
            clear hKn hSh
            replace hk2 := Lib.hid hk2
            replace hI := Lib.hid hI
            clear hwt
            refine wpOp_step rfl (fun K hK => ?_)
            go_simp
            refine hC.out.mono ?_
            rintro e w5 ⟨v5, rfl, hr5, hb5⟩
            exact hK _ _ ⟨v5, by simp [updT, ], hk2.out.free rfl, hI.out.call h10 hSw (by decide) (by decide) hr5 hb5⟩
          · -- operation 8
            have e1 : t 1 = .string n := hk2 1 _ (hwt 1 (by kernel_rfl)) rfl
            have hSh : ∀ b, Sh S w0 W b → b < W.heap.size := fun b hb => by rcases hb with hb | hb; (have := hSw b hb; omega); exact hb.2
            have hC := Lib.hid (hF3.out W (t 7) (Sh S w0 W) hSh (hKn 7 (by decide) (by decide) (hwt 7 (by kernel_rfl))))
            clear hKn hSh
            replace hk2 := Lib.hid hk2
            replace hI := Lib.hid hI
            clear hwt
            refine wpOp_step rfl (fun K hK => ?_)
            go_simp
            refine hC.out.mono ?_
            rintro e w5 ⟨v5, rfl, hr5, hb5⟩
            exact hK _ _ ⟨v5, by simp [updT, e1], hk2.out.free rfl, hI.out.call h10 hSw (by decide) (by decide) hr5 hb5⟩
          · -- operation 9
            clear hKn hlow hlz h10
            replace hI := Lib.hid hI
            replace hk2 := Lib.hid hk2
            clear hwt
            refine wpOp_step rfl (fun K hK => ?_)
            go_simp
            exact hK _ _ ⟨_, by simp [updT], hk2.out.at_ rfl, hI.out.same _ _ (by decide)⟩
          · -- operation 10
            have e9 : t 9 = .pointer (some ⟨wr.heap.size, 4, none⟩) := hk2 9 _ (hwt 9 (by kernel_rfl)) rfl
            have hall : ∀ j, j < 10 → f j = true := fun j hj => by
              rcases (by omega : j = 0 ∨ j = 1 ∨ j = 2 ∨ j = 3 ∨ j = 4 ∨ j = 5 ∨ j = 6 ∨ j = 7 ∨ j = 8 ∨ j = 9) with rfl | rfl | rfl | rfl | rfl | rfl | rfl | rfl | rfl | rfl <;> exact hwt _ (by kernel_rfl)
            obtain ⟨a8, c8, e8⟩ := (hKn 8 (by decide) (by decide) (hall 8 (by decide))).slice
            have hput := hI.put h10 hall undef
            rw [e8] at hput
            have f4 := (bx.below hlow (by omega)).free 4
            replace hput := Lib.hid hput
            clear hKn hall
            replace hk2 := Lib.hid hk2
            replace hI := Lib.hid hI
            clear hwt
            refine wpOp_step rfl (fun K hK => ?_)
            go_simp
            exact hK _ _ ⟨undef, by simp [updT, e8, e9], hk2.out.free rfl, hput.out⟩
        case fin =>
          intro f t W hall hk2 hI
          obtain ⟨_, W0, hb0, hr8, rfl⟩ := hI.2 (hall 10 (by omega))
          clear hk2 hall hI
          change RepN (Sh S w0 W0) W0 (t 8) l3 at hr8
          obtain ⟨a8, c8, e8⟩ := hr8.slice
          rw [e8] at hr8 ⊢
          have hb0z := hb0.size
          have hbW : Below wr.heap.size wr (W0.setCell ⟨wr.heap.size, 4, none⟩ (.slice a8 l3.length c8)) := (bt hbx hb0).setCell (p := ⟨wr.heap.size, 4, none⟩) (Nat.le_refl _) _
          have bxW := (bx.below hb0 (by omega)).set 4 (.slice a8 l3.length c8)
          simp only [List.set_cons_succ, List.set_cons_zero] at bxW
          have hsW : (W0.setCell ⟨wr.heap.size, 4, none⟩ (.slice a8 l3.length c8)).heap.size = W0.heap.size := by simp [World.setCell]
          have hk8 : RepN (ShV S wo.heap.size u3 (W0.setCell ⟨wr.heap.size, 4, none⟩ (.slice a8 l3.length c8))) (W0.setCell ⟨wr.heap.size, 4, none⟩ (.slice a8 l3.length c8)) (.slice a8 l3.length c8) l3 := by
            refine (hr8.keep (fun c hc => Below.heap_setCell W0 _ _ c (by rcases hc with hc | hc; (have := hS c hc; show c ≠ wr.heap.size; omega); (show c ≠ wr.heap.size; omega)))).mono (fun c hc => ⟨?_, ?_⟩)
            · rcases hc with hc | hc
              · exact Or.inl hc
              · exact Or.inr ⟨by omega, by rw [hsW]; exact hc.2⟩
            · rcases hc with hc | hc
              · exact ownB_ne hown (Or.inl (hS c hc))
              · exact ownB_ne hown (Or.inr (by omega))
          obtain ⟨W, hW⟩ : ∃ W, W0.setCell ⟨wr.heap.size, 4, none⟩ (.slice a8 l3.length c8) = W := ⟨_, rfl⟩
          rw [hW] at hbW bxW hk8 ⊢
          clear hW hr8 hb0 hb0z hsW
          replace hk8 := Lib.hid hk8
          have q0 := bxW.cell (i := 0) rfl
          have q1 := bxW.cell (i := 1) rfl
          have q2 := bxW.cell (i := 2) rfl
          have q3 := bxW.cell (i := 3) rfl
          have q4 := bxW.cell (i := 4) rfl
          clear bx bxW p1 p4
          replace hAr := hAr.out
          try dsimp only
          have hz5 := hbW.size
          have hown5 := own_below3 hown (hbW)
          have hA5 := Lib.hid (shv_below hS hz hAr hbW)
          have hbo := bt hb hbW
          have hzo := hbo.size
          replace hAr := Lib.hid hAr
          go_wp2_with (at_builtin; refine wpList_appK _ [.int .i64 1, .string n, .slice a1 ats.length e1, .string tx, .slice a8 l3.length c8] 5 rfl _ _ 25 41 rfl wo.heap.size Tryz.underlying25 infoN rfl (by omega) _ A.length (cellsV A) rfl hown5 _ rfl rfl rfl (five_one _ _ _ _ _ _ _ _ _) (by omega) (by omega) hzo ?_; intro g cp w6 hown6 hgrow6 hat6)
          have hb6 := below_own hbo hown5 hgrow6 hzo (Nat.le_refl _)
          have hA6 := shv_grow (n := A.length + 1) (cap := cp) hS hzo hA5.out hgrow6 hat6
          have hx6 := shv_grow (A := [(⟨.mk 1 n ats tx l3, .slice a1 ats.length e1, .slice a8 l3.length c8⟩ : NV)]) (n := A.length + 1) (cap := cp) hS hzo (fun b hb => by
            rw [List.mem_singleton] at hb
            subst hb
            exact ⟨((hrv.at_).below (fun c hc => by have := hS c hc; omega) hbW).mono (fun c hc => ⟨Or.inl hc, ownB_ne hown5 (Or.inl (hS c hc))⟩), hk8.out⟩) hgrow6 hat6
          have hown7 : w6.ownsRow wo.heap.size 41 5 (.slice (some ⟨g, 0, none⟩) (A.length + 1) cp) (A ++ [(⟨.mk 1 n ats tx l3, .slice a1 ats.length e1, .slice a8 l3.length c8⟩ : NV)]).length (cellsV (A ++ [(⟨.mk 1 n ats tx l3, .slice a1 ats.length e1, .slice a8 l3.length c8⟩ : NV)])) := by
            rw [cellsV_snoc, List.length_append]; exact hown6
          have hA7 : ∀ b ∈ A ++ [(⟨.mk 1 n ats tx l3, .slice a1 ats.length e1, .slice a8 l3.length c8⟩ : NV)], RepV (ShV S wo.heap.size (.slice (some ⟨g, 0, none⟩) (A.length + 1) cp) w6) w6 b.x b.va b.vk := fun b hb => by
            rcases List.mem_append.1 hb with hb | hb
            · exact hA6 b hb
            · exact hx6 b hb
          clear hown6 hgrow6 hat6 hA6 hx6 hown5 hA5
          replace hA7 := Lib.hid hA7
          go_roundw
          case rel => exact ⟨i + 1, A ++ [(⟨.mk 1 n ats tx l3, .slice a1 ats.length e1, .slice a8 l3.length c8⟩ : NV)], by omega, by go_num, hnext _ _, hown7, hA7.out, hb6⟩
          case measure => exact meas_nat hlt
    · obtain rfl : i = l.length := by omega
      rw [List.take_length] at hA
      have hd1 := (steadyQ_sizes l (fun _ => true)).2
      have hd2 := txt_dt (M6.steadyQ (fun _ => true) l)
      have hrep : RepN (Sh S wo wr) wr u3 (M6.steadyQ (fun _ => true) l) := by
        rw [← hA.out]
        refine ⟨cellsV A, by rw [List.length_map]; exact Row.own hown (fun g hg => Or.inr (hown.lt g hg)), RepC.of_nv (fun b hb => (hAr.out b hb).mono (fun c hc => hc.1))⟩
      have hml : (M6.steadyQ (fun _ => true) l).length ≤ 1000000 := by rw [← hA.out, List.length_map]; exact hAl
      have hM := Lib.hid (ref03MergeS _ u3 _ wr (fun b hb => by rcases hb with hb | hb; (have := hS b hb; omega); exact hb.2) hrep hml (by omega))
      clear hA hrep hAr hown
      go_wp2_with fail
      refine hM.out.mono ?_
      rintro e w2 ⟨v2, rfl, hr2, hb2⟩
      have hz2 := hb2.size
      have hres : Hid (RepN (fun b => S b ∨ (wo.heap.size ≤ b ∧ b < w2.heap.size)) w2 v2 (M6.steady l)) := hr2.mono (fun b hb => by
        rcases hb with (hb | hb) | hb
        · exact Or.inl hb
        · exact Or.inr ⟨hb.1, by omega⟩
        · exact Or.inr ⟨by omega, hb.2⟩)
      have hbo := bt hb hb2
      clear hr2 hM
      go_wp2_with fail
      go_ret
      exact ⟨v2, rfl, hres.out, hbo⟩
end Go.Proofs.YteefodibpjgicaaGreat
namespace Go.Proofs.YteefodibpjgicaaGreat
open Go.RowKit
theorem ref06Good (S : Nat → Prop) (v : Value) (l : List Nd) (w : World) (hS : ∀ b, S b → b < w.heap.size) (hr : RepN S w v l) (hsz : SzN l) :
    Calls Tryz.prog 22 #[v] w (RepPost (M6.steady (gdN l)) w) := by
  have hG := Lib.hid (ref03Good S v l w hS hr hsz)
  have hw := gd_weight l
  have hd := dt_gd l
  have hf := gd_fit l
  have hSt := Lib.hid (fun (S : Nat → Prop) v W hS h => ref06Steady (M3.weight (gdN l) + 1) S v (gdN l) W (by omega) (by omega) hf (by omega) hS h)
  obtain ⟨a, cap, rfl⟩ := hr.slice
  clear hr hw hd hf
  generalize gdN l = G at *
  obtain ⟨wo, rfl⟩ : ∃ wo : World, wo = w := ⟨_, rfl⟩
  go_enter Tryz.func22, Tryz.ntmps22
  go_wp2_with fail
  refine hG.out.mono ?_
  rintro e w1 ⟨v1, rfl, hf1, hb1⟩
  have hr1 := hf1.rep
  have hz1 := hb1.size
  have hK := Lib.hid (hSt.out _ v1 w1 (fun b h => h.2) hr1)
  obtain ⟨a1, c1, hv1⟩ := hr1.slice
  subst hv1
  clear hG hSt hf1 hr1
  go_wp2_with fail
  refine hK.out.mono ?_
  rintro e w2 ⟨v2, rfl, hr2, hb2⟩
  have hres : Hid (RepN (fun b => b < w2.heap.size) w2 v2 (M6.steady G)) := hr2.mono (fun b hb => by
    have := hb2.size
    rcases hb with hb | hb
    · have := hb.2; omega
    · exact hb.2)
  have hbo := bt hb1 hb2
  clear hK hr2
  go_wp2_with fail
  go_ret
  exact ⟨_, rfl, hres.out, hbo⟩
end Go.Proofs.YteefodibpjgicaaGreat
namespace Go.Proofs.YteefodibpjgicaaGreat
open Go.RowKit
set_option maxHeartbeats 4000000 in
set_option maxRecDepth 100000 in
theorem law08ParseKeeps (S : Nat → Prop) (v : Value) (l : List Nd) (w : World) (hg : Glo w) (hS : ∀ b, S b → b < w.heap.size) (hr : RepN S w v l) (hsz : SzN l) : Calls Tryz.prog 5 #[v] w fun e w' => e = .returned (.bool true) ∧ Below w.heap.size w w' := by
  have hG := Lib.hid (ref03Good S v l w hS hr hsz)
  have hN := Lib.hid (fun W (hb : Below w.heap.size w W) => ref06Good S v l W (fun b h => Nat.lt_of_lt_of_le (hS b h) hb.size) (hr.below hS hb) hsz)
  obtain ⟨a, cap, rfl⟩ := hr.slice
  have hm := gd_may l
  have hf := gd_fit l
  have ht := gd_text l false
  have htk := gd_toks l
  have hst := st_stable l
  have hf2 := st_fit l
  have ht2 := st_text l false
  have htk2 := st_toks l
  change Hid (∀ W, Below w.heap.size w W → Calls Tryz.prog 22 #[_] W (RepPost (stN l) W)) at hN
  generalize stN l = T at *
  generalize gdN l = G at *
  have hk := keeps_iff hm
  have hk2 : M3.sameN (again T) T = true := by rw [again_stable8 hst, M3.sameN_self]
  clear hr hsz
  obtain ⟨wo, rfl⟩ : ∃ wo : World, wo = w := ⟨_, rfl⟩
  go_enter Tryz.func5, Tryz.ntmps5
  go_wp2_with fail
  refine hG.out.mono ?_
  rintro e w1 ⟨v1, rfl, hF1, hb1⟩
  have hr1 := hF1.rep
  have hN1 := Lib.hid (hN.out _ hb1)
  have hq1 : Hid (∀ W, Below w1.heap.size w1 W → RepN (fun b => b < W.heap.size) W v1 G) := fun W hb => (hr1.below (fun b h => h.2) hb).mono fun b h => Nat.lt_of_lt_of_le h.2 hb.size
  obtain ⟨a1, c1, rfl⟩ := hr1.slice
  clear hF1 hr1 hG hN
  go_wp2_with fail
  refine hN1.out.mono ?_
  rintro e w2 ⟨v2, rfl, hr2, hb2⟩
  have hb02 := bt hb1 hb2
  have hq2 : Hid (∀ W, Below w2.heap.size w2 W → RepN (fun b => b < W.heap.size) W v2 T) := fun W hb => (hr2.below (fun b h => h) hb).mono fun b h => Nat.lt_of_lt_of_le h hb.size
  obtain ⟨a2, c2, rfl⟩ := hr2.slice
  have hK := Lib.hid (parKeeps _ _ G w2 (hg.below hb02 (Nat.le_refl _)) (fun b h => h) (hq1.out _ hb2) hf (by omega) htk)
  rw [hk] at hK
  clear hr2 hN1
  go_wp2_with fail
  refine hK.out.mono ?_
  rintro e w3 ⟨rfl, hb3⟩
  have hSt := Lib.hid (ref06Stable _ _ G w3 hf (fun b h => h) (hq1.out _ (bt hb2 hb3)))
  generalize M6.stableB G = sg at *
  clear hK
  go_wp2_with fail
  refine hSt.out.mono ?_
  rintro e w4 ⟨rfl, hb4⟩
  have hb24 := bt hb3 hb4
  have hb04 := bt hb02 hb24
  have hK4 := Lib.hid (parKeeps _ _ T w4 (hg.below hb04 (Nat.le_refl _)) (fun b h => h) (hq2.out _ hb24) hf2 (by omega) htk2)
  rw [hk2] at hK4
  have hsg : (sg == sg) = true := by simp
  clear hSt
  go_wp2_with fail
  refine hK4.out.mono ?_
  rintro e w5 ⟨rfl, hb5⟩
  have hb25 := bt hb24 hb5
  have hb05 := bt hb02 hb25
  have hA := Lib.hid (parAgain _ _ T w5 (hg.below hb05 (Nat.le_refl _)) (fun b h => h) (hq2.out _ hb25) hf2 (by omega) htk2)
  rw [again_stable8 hst] at hA
  clear hK4
  go_wp2_with fail
  refine hA.out.mono ?_
  rintro e w6 ⟨v6, rfl, hr6, hb6⟩
  have hb26 := bt hb25 hb6
  have hb06 := bt hb02 hb26
  have hSm := Lib.hid (same_callR (shr_lt hr6) (hq2.out _ hb26))
  rw [M3.sameN_self] at hSm
  obtain ⟨a6, c6, rfl⟩ := hr6.slice
  clear hr6 hA
  go_wp2_with fail
  refine hSm.out.mono ?_
  rintro e w7 ⟨rfl, hb7⟩
  have hb07 := bt hb06 hb7
  have hLv := Lib.hid (lives08 w7 (hg.below hb07 (Nat.le_refl _)))
  clear hSm
  go_wp2_with fail
  refine hLv.out.mono ?_
  rintro e w8 ⟨rfl, hb8⟩
  have hb08 := bt hb07 hb8
  go_wp2_with fail
  go_ret
  exact ⟨rfl, hb08⟩
end Go.Proofs.YteefodibpjgicaaGreat
