/- Texts joined: Tok5, Shelf5, Tok6. -/
import Derived.Test.YteefodibpjgicaaGreatRows
import Derived.Shelf.Strings.Builder1
import Derived.Shelf.Small.Strs
import Derived.Shelf.Strings.BuilderF
import Derived.Shelf.Strings.BuilderK
import Derived.Shelf.Strings.BuilderRune
import Derived.Shelf.LaysM
import Derived.Shelf.Strconv.Clone
import Derived.Shelf.Strings.Search1
import Derived.Shelf.Strings.Search2
import Derived.Shelf.Strings.Search3
import Derived.Shelf.Strings.Cut
import Derived.Shelf.Strings.Shaped
import Derived.Shelf.Strings.Prefix
import Derived.Test.YteefodibpjgicaaGreatA3
import Derived.Test.YteefodibpjgicaaGreatA41
namespace Go.Proofs.YteefodibpjgicaaGreat
open Go.RowKit
def Gives2 (F : Nat) (args : Array Value) (a b : ByteArray) : Prop:=∀ w,Calls Tryz.prog F args w (fun e w' => e = .returned (.tuple #[.string a,.string b]) ∧ Below w.heap.size w w')
def Gives1 (F : Nat) (args : Array Value) (a : ByteArray) : Prop:=∀ w,Calls Tryz.prog F args w (fun e w' => e = .returned (.string a) ∧ Below w.heap.size w w')
theorem take2 {F : Nat} {q : UInt8 → Bool} (hA : ∀ w,Asks F #[] q w) (s : ByteArray) (hs : s.size ≤ 1073741824) : Gives2 171 #[.string s,.func (.func F) #[] #[]] (M5.bs (s.data.toList.takeWhile q)) (M5.bs (s.data.toList.dropWhile q)):=fun w => tokTake s w (hA w) hs
theorem fold1 (s : ByteArray) (hs : s.size ≤ 1073741824) : Gives1 111 #[.string s] (M5.bs (M1.fold s.data.toList)):=fun w => utfFold s w (by omega)
theorem decode1 (s : ByteArray) (hs : s.size ≤ 1073741824) : Gives1 167 #[.string s] (M5.bs (M2.decode s.data.toList)):=fun w => refsDecode s w hs
theorem value2 (s : ByteArray) (hs : s.size ≤ 1073741824) : Gives2 185 #[.string s] (M5.bs (M5.valC s.data.toList).1) (M5.bs (M5.valC s.data.toList).2):=fun w => tokValue s w hs
def AttCPost (p : Att × List UInt8) (w : World) (e : Ending) (w' : World) : Prop :=
  e = .returned (.tuple #[.agg #[.string p.1.name,.string p.1.value],.string (M5.bs p.2)]) ∧ Below w.heap.size w w'
set_option maxHeartbeats 4000000 in
set_option maxRecDepth 100000 in
theorem tokAttribute (s : ByteArray) (w : World) (hs : s.size ≤ 1073741824) : Calls Tryz.prog 173 #[.string s] w (AttCPost (M5.attC s.data.toList) w):=by
  obtain ⟨n0,hn0⟩ : ∃ x,Hid (x = M5.bs (s.data.toList.takeWhile M5.keyB)):=⟨_,rfl⟩
  obtain ⟨s1,hs1⟩ : ∃ x,Hid (x = M5.bs (s.data.toList.dropWhile M5.keyB)):=⟨_,rfl⟩
  have hn0s : n0.size ≤ 1073741824:=by rw [hn0.out]; exact Nat.le_trans (tw_le _ s) hs
  have hs1s : s1.size ≤ 1073741824:=by rw [hs1.out]; exact Nat.le_trans (dw_le _ s) hs
  have hT1:=take2 asksKey s hs
  rw [← hn0.out,← hs1.out] at hT1
  obtain ⟨nm,hnm⟩ : ∃ x,Hid (x = M5.bs (M1.fold n0.data.toList)):=⟨_,rfl⟩
  have hF:=fold1 n0 hn0s
  rw [← hnm.out] at hF
  obtain ⟨x2,hx2⟩ : ∃ x,Hid (x = M5.bs (s1.data.toList.takeWhile M5.blankB)):=⟨_,rfl⟩
  obtain ⟨s2,hs2⟩ : ∃ x,Hid (x = M5.bs (s1.data.toList.dropWhile M5.blankB)):=⟨_,rfl⟩
  have hs2s : s2.size ≤ 1073741824:=by rw [hs2.out]; exact Nat.le_trans (dw_le _ s1) hs1s
  have hT2:=take2 asksBlank s1 hs1s
  rw [← hx2.out,← hs2.out] at hT2
  have hnm2 : Hid (nm = M5.bs (M1.fold (s.data.toList.takeWhile M5.keyB))):=by show _ = _; rw [hnm.out,hn0.out,M5.bs_data]
  have hr0 : Hid ((s.data.toList.dropWhile M5.keyB).dropWhile M5.blankB = s2.data.toList):=by show _ = _; rw [hs2.out,hs1.out,M5.bs_data,M5.bs_data]
  replace hT1:=Lib.hid hT1
  replace hF:=Lib.hid hF
  replace hT2:=Lib.hid hT2
  have e61:=hasP1 s2 61
  obtain ⟨wo,rfl⟩ : ∃ wo : World,wo = w:=⟨_,rfl⟩
  have bx0:=Box.new wo 43 [.string ⟨#[]⟩,.string ⟨#[]⟩]
  have hb0:=Lib.hid ((Below.refl _ wo).alloc (Nat.le_refl _) (.cells #[.string ⟨#[]⟩,.string ⟨#[]⟩] 43))
  by_cases h61 : ∃ r,s2.data.toList = 61 :: r
  · obtain ⟨r,hr⟩:=h61
    have e61' : Lib.hasPrefix s2.data.toList [61] = true:=by rw [e61,hr]; rfl
    have h2p : 0 < s2.size:=by
      have : s2.data.toList.length = s2.size:=rfl
      rw [hr] at this
      simp at this
      omega
    have hd2 : (s2.extract 1 s2.size).data.toList = r:=by rw [drop1_bs,M5.bs_data,hr]; rfl
    have hd2s : (s2.extract 1 s2.size).size ≤ 1073741824:=by rw [ByteArray.size_extract]; omega
    obtain ⟨x3,hx3⟩ : ∃ x,Hid (x = M5.bs (r.takeWhile M5.blankB)):=⟨_,rfl⟩
    obtain ⟨s3,hs3⟩ : ∃ x,Hid (x = M5.bs (r.dropWhile M5.blankB)):=⟨_,rfl⟩
    have hT3:=take2 asksBlank (s2.extract 1 s2.size) hd2s
    rw [hd2,← hx3.out,← hs3.out] at hT3
    have hs3s : s3.size ≤ 1073741824:=by
      have:=dw_le M5.blankB (s2.extract 1 s2.size)
      rw [hd2,← hs3.out] at this
      omega
    obtain ⟨x4,hx4⟩ : ∃ x,Hid (x = M5.bs (M5.valC s3.data.toList).1):=⟨_,rfl⟩
    obtain ⟨s4,hs4⟩ : ∃ x,Hid (x = M5.bs (M5.valC s3.data.toList).2):=⟨_,rfl⟩
    have hV:=value2 s3 hs3s
    rw [← hx4.out,← hs4.out] at hV
    have hx4s : x4.size ≤ 1073741824:=by
      rw [hx4.out,bs_size]
      have:=M5.valC_fst_le s3.data.toList
      have h3 : s3.data.toList.length = s3.size:=rfl
      omega
    obtain ⟨dv,hdv⟩ : ∃ x,Hid (x = M5.bs (M2.decode x4.data.toList)):=⟨_,rfl⟩
    have hD:=decode1 x4 hx4s
    rw [← hdv.out] at hD
    have hR : Hid (M5.attC s.data.toList = (⟨nm,dv⟩,(M5.valC s3.data.toList).2)):=by
      show _ = _
      rw [M5.attC_61 _ r (by rw [hr0.out,hr]),← hnm2.out,hdv.out,hx4.out,hs3.out,M5.bs_data,M5.bs_data]
    rw [hR.out]
    replace hT3:=Lib.hid hT3
    replace hV:=Lib.hid hV
    replace hD:=Lib.hid hD
    replace hr:=Lib.hid hr
    replace hd2:=Lib.hid hd2
    clear e61
    go_enter Tryz.func173,Tryz.ntmps173
    go_wp2_with fail
    refine (hT1.out _).mono ?_
    rintro e1 w1 ⟨rfl,hb1⟩
    have bx1:=bx0.below hb1 bx0.lt
    have hbW1:=Lib.hid (bt hb0.out hb1)
    go_wp2_with fail
    refine (hF.out _).mono ?_
    rintro e1 w2 ⟨rfl,hb2⟩
    have bx2:=bx1.below hb2 bx1.lt
    have hbW2:=Lib.hid (bt hbW1.out hb2)
    go_wp2_with fail
    refine (hT2.out _).mono ?_
    rintro e1 w3 ⟨rfl,hb3⟩
    have ba3:=(Box.new w2 43 [.string nm,.string ⟨#[]⟩]).below hb3 (by simp)
    have bx3:=(bx2.alloc (.cells #[.string nm,.string ⟨#[]⟩] 43)).below hb3 (by simp; exact Nat.lt_succ_of_lt bx2.lt)
    have hbW3:=Lib.hid (bt (hbW2.out.alloc (by have:=bx2.lt; omega) (.cells #[.string nm,.string ⟨#[]⟩] 43)) hb3)
    have hz3 : wo.heap.size < w2.heap.size:=bx2.lt
    go_wp2_with (go_at_call 104; refine (hasPrefix_any _ _ _).mono ?_; rintro e w1 ⟨rfl,rfl⟩; rw [e61'])
    refine (hT3.out _).mono ?_
    rintro e1 w4 ⟨rfl,hb4⟩
    have ba4:=ba3.below hb4 ba3.lt
    have bx4:=bx3.below hb4 bx3.lt
    have hbW4:=Lib.hid (bt hbW3.out hb4)
    go_wp2_with fail
    refine (hV.out _).mono ?_
    rintro e1 w5 ⟨rfl,hb5⟩
    have ba5:=ba4.below hb5 ba4.lt
    have bx5:=bx4.below hb5 bx4.lt
    have hbW5:=Lib.hid (bt hbW4.out hb5)
    go_wp2_with fail
    refine (hD.out _).mono ?_
    rintro e1 w6 ⟨rfl,hb6⟩
    have ba6:=ba5.below hb6 ba5.lt
    have bx6:=bx5.below hb6 bx5.lt
    have hbW6:=Lib.hid (bt hbW5.out hb6)
    have bav:=ba6.set 1 (.string dv)
    simp only [List.set_cons_succ,List.set_cons_zero] at bav
    have v0:=bav.cell (i:=0) rfl
    have v1:=bav.cell (i:=1) rfl
    have bxv:=bx6.far (p:=⟨w2.heap.size,1,none⟩) (by show wo.heap.size ≠ w2.heap.size; omega) (.string dv)
    have r0:=bxv.cell (i:=0) rfl
    have r1:=bxv.cell (i:=1) rfl
    have f0:=bxv.free 0
    have f1:=bxv.free 1
    have kf:=ba6.free 1
    have k1:=ba6.cell (i:=1) rfl
    have bxf:=Lib.hid (bxv.two (.string nm) (.string dv))
    have hbf:=Lib.hid (two_below (hbW6.out.setCell (p:=⟨w2.heap.size,1,none⟩) (by show wo.heap.size ≤ w2.heap.size; omega) (.string dv)) (g:=wo.heap.size) (.string nm) (.string dv) (Nat.le_refl _))
    clear hb1 hb2 hb3 hb4 hb5 hb6
    go_wp2_with fail
    have t0:=bxf.out.cell (i:=0) rfl
    have t1:=bxf.out.cell (i:=1) rfl
    exact bodyPost_ret (v:=.tuple #[.agg #[.string nm,.string dv],.string s4]) (by simp [results,Tryz.results173,go_sem,t0,t1]) rfl ⟨by rw [hs4.out],hbf.out⟩
  · have e61' : Lib.hasPrefix s2.data.toList [61] = false:=by
      rw [e61,beq_eq_false_iff_ne]
      intro h
      cases hl : s2.data.toList with
      | nil => rw [hl] at h; cases h
      | cons q t => rw [hl] at h; exact h61 ⟨t,by rw [hl,Option.some.inj h]⟩
    have hR : Hid (M5.attC s.data.toList = (⟨nm,⟨#[]⟩⟩,s2.data.toList)):=by
      show _ = _
      rw [M5.attC_ne _ (fun r h => h61 ⟨r,by rw [← hr0.out]; exact h⟩),← hnm2.out,hr0.out]
    rw [hR.out]
    replace h61:=Lib.hid h61
    clear e61
    go_enter Tryz.func173,Tryz.ntmps173
    go_wp2_with fail
    refine (hT1.out _).mono ?_
    rintro e1 w1 ⟨rfl,hb1⟩
    have bx1:=bx0.below hb1 bx0.lt
    have hbW1:=Lib.hid (bt hb0.out hb1)
    go_wp2_with fail
    refine (hF.out _).mono ?_
    rintro e1 w2 ⟨rfl,hb2⟩
    have bx2:=bx1.below hb2 bx1.lt
    have hbW2:=Lib.hid (bt hbW1.out hb2)
    go_wp2_with fail
    refine (hT2.out _).mono ?_
    rintro e1 w3 ⟨rfl,hb3⟩
    have ba3:=(Box.new w2 43 [.string nm,.string ⟨#[]⟩]).below hb3 (by simp)
    have bx3:=(bx2.alloc (.cells #[.string nm,.string ⟨#[]⟩] 43)).below hb3 (by simp; exact Nat.lt_succ_of_lt bx2.lt)
    have hbW3:=Lib.hid (bt (hbW2.out.alloc (by have:=bx2.lt; omega) (.cells #[.string nm,.string ⟨#[]⟩] 43)) hb3)
    have hz3 : wo.heap.size < w2.heap.size:=bx2.lt
    have v0:=ba3.cell (i:=0) rfl
    have v1:=ba3.cell (i:=1) rfl
    have r0:=bx3.cell (i:=0) rfl
    have r1:=bx3.cell (i:=1) rfl
    have f0:=bx3.free 0
    have f1:=bx3.free 1
    have bxf:=Lib.hid (bx3.two (.string nm) (.string ⟨#[]⟩))
    have hbf:=Lib.hid (two_below hbW3.out (g:=wo.heap.size) (.string nm) (.string ⟨#[]⟩) (Nat.le_refl _))
    clear hb1 hb2 hb3
    go_wp2_with (go_at_call 104; refine (hasPrefix_any _ _ _).mono ?_; rintro e w1 ⟨rfl,rfl⟩; rw [e61'])
    have t0:=bxf.out.cell (i:=0) rfl
    have t1:=bxf.out.cell (i:=1) rfl
    exact bodyPost_ret (v:=.tuple #[.agg #[.string nm,.string ⟨#[]⟩],.string s2]) (by simp [results,Tryz.results173,go_sem,t0,t1]) rfl ⟨by rw [M5.bs_of],hbf.out⟩
end Go.Proofs.YteefodibpjgicaaGreat

namespace Go.Proofs.YteefodibpjgicaaGreat
open Go.Shelf
def Tryz.lays143_ren : Go.Shelf.Ren:=⟨fun | 143 => 187 | 219 => 194 | 217 => 132 | 225 => 131 | 224 => 130 | 267 => 197 | 266 => 133 | 314 => 199 | n => n,fun | 9 => 9 | 3 => 3 | 4 => 4 | 5 => 5 | 46 => 143 | 146 => 182 | 51 => 151 | n => n,fun | 1 => 0 | n => n⟩
def Tryz.lays145_ren : Go.Shelf.Ren:=⟨fun | 145 => 175 | 220 => 186 | 219 => 194 | 217 => 132 | 225 => 131 | 224 => 130 | 267 => 197 | 266 => 133 | 314 => 199 | n => n,fun | 9 => 9 | 4 => 4 | 59 => 171 | 3 => 3 | 5 => 5 | 46 => 143 | 146 => 182 | 51 => 151 | n => n,fun | 1 => 0 | n => n⟩
theorem Tryz.lays145 : Go.Proofs.Lays.n145 Tryz.prog Tryz.lays145_ren:={
  mixed:=by kernel_rfl
  f145:=Tryz.func175.trans (congrArg some (by kernel_rfl))
  f217:=Tryz.func132.trans (congrArg some (by kernel_rfl))
  f219:=Tryz.func194.trans (congrArg some (by kernel_rfl))
  f220:=Tryz.func186.trans (congrArg some (by kernel_rfl))
  f224:=Tryz.func130.trans (congrArg some (by kernel_rfl))
  f225:=Tryz.func131.trans (congrArg some (by kernel_rfl))
  f266:=Tryz.func133.trans (congrArg some (by kernel_rfl))
  f267:=Tryz.func197.trans (congrArg some (by kernel_rfl))
  f314:=Tryz.func199.trans (congrArg some (by kernel_rfl))
  t3:=Tryz.underlying3
  a3:=Tryz.isAgg3
  z3:=Tryz.sizeOf3
  v3:=Tryz.zeroValue3
  t4:=Tryz.underlying4
  a4:=Tryz.isAgg4
  z4:=Tryz.sizeOf4
  v4:=Tryz.zeroValue4
  t5:=Tryz.underlying5
  a5:=Tryz.isAgg5
  z5:=Tryz.sizeOf5
  v5:=Tryz.zeroValue5
  t9:=Tryz.underlying9
  a9:=Tryz.isAgg9
  z9:=Tryz.sizeOf9
  v9:=Tryz.zeroValue9
  t46:=Tryz.underlying143
  a46:=Tryz.isAgg143
  z46:=Tryz.sizeOf143
  v46:=Tryz.zeroValue143
  t51:=Tryz.underlying151
  a51:=Tryz.isAgg151
  z51:=Tryz.sizeOf151
  v51:=Tryz.zeroValue151
  t59:=Tryz.underlying171
  a59:=Tryz.isAgg171
  z59:=Tryz.sizeOf171
  v59:=Tryz.zeroValue171
  t146:=Tryz.underlying182
  a146:=Tryz.isAgg182
  z146:=Tryz.sizeOf182
  v146:=Tryz.zeroValue182
  g1:=by kernel_rfl }
open Go.RowKit Go.Lib in
theorem Tryz.strings_Cut (s sep : ByteArray) (m : Int) (w : World) (hs : s.size < 4294967281) (hm : w.cell? ⟨0,0,none⟩ = some (.int .i64 m)) :
    Calls Tryz.prog 175 #[.string s,.string sep] w fun e w' => e = .returned (.tuple #[.string ⟨(Lib.cut s.data.toList sep.data.toList).1.toArray⟩,.string ⟨(Lib.cut s.data.toList sep.data.toList).2.1.toArray⟩,.bool (Lib.cut s.data.toList sep.data.toList).2.2]) ∧ ∃ n,w' = w.drewN n:=Any.strings_Cut Tryz.lays145 s sep m w hs hm
def Tryz.laysM145_ren : Go.Shelf.Ren:=⟨fun | 145 => 175 | 220 => 186 | 219 => 194 | 217 => 132 | 225 => 131 | 224 => 130 | 267 => 197 | 266 => 133 | 314 => 199 | n => n,fun | 9 => 9 | 4 => 4 | 59 => 171 | 3 => 3 | 5 => 5 | 46 => 143 | 146 => 182 | 51 => 151 | n => n,fun | 1 => 0 | n => n⟩
theorem Tryz.laysM145 : Go.Proofs.LaysM.n145 Tryz.prog Tryz.laysM145_ren:={
  mixed:=by kernel_rfl
  f145:=Tryz.func175.trans (congrArg some (by kernel_rfl))
  f217:=Tryz.func132.trans (congrArg some (by kernel_rfl))
  f219:=Tryz.func194.trans (congrArg some (by kernel_rfl))
  f220:=Tryz.func186.trans (congrArg some (by kernel_rfl))
  f224:=Tryz.func130.trans (congrArg some (by kernel_rfl))
  f225:=Tryz.func131.trans (congrArg some (by kernel_rfl))
  f266:=Tryz.func133.trans (congrArg some (by kernel_rfl))
  f267:=Tryz.func197.trans (congrArg some (by kernel_rfl))
  f314:=Tryz.func199.trans (congrArg some (by kernel_rfl))
  t3:=Tryz.underlying3
  a3:=Tryz.isAgg3
  z3:=Tryz.sizeOf3
  v3:=Tryz.zeroValue3
  t4:=Tryz.underlying4
  a4:=Tryz.isAgg4
  z4:=Tryz.sizeOf4
  v4:=Tryz.zeroValue4
  t5:=Tryz.underlying5
  a5:=Tryz.isAgg5
  z5:=Tryz.sizeOf5
  v5:=Tryz.zeroValue5
  t9:=Tryz.underlying9
  a9:=Tryz.isAgg9
  z9:=Tryz.sizeOf9
  v9:=Tryz.zeroValue9
  t46:=Tryz.underlying143
  a46:=Tryz.isAgg143
  z46:=Tryz.sizeOf143
  v46:=Tryz.zeroValue143
  t51:=Tryz.underlying151
  a51:=Tryz.isAgg151
  z51:=Tryz.sizeOf151
  v51:=Tryz.zeroValue151
  t59:=Tryz.underlying171
  a59:=Tryz.isAgg171
  z59:=Tryz.sizeOf171
  v59:=Tryz.zeroValue171
  t146:=Tryz.underlying182
  a146:=Tryz.isAgg182
  z146:=Tryz.sizeOf182
  v146:=Tryz.zeroValue182
  g1:=by kernel_rfl
  i3:=by kernel_rfl
  i4:=by kernel_rfl
  i5:=by kernel_rfl
  i9:=by kernel_rfl
  i46:=by kernel_rfl
  i51:=by kernel_rfl
  i59:=by kernel_rfl
  i146:=by kernel_rfl
  m1:=by kernel_rfl
  s1_3:=fun w h => Go.Proofs.cell_of_shapedOpen_int (zero:=#[.int .i64 0]) (t:=3) h (of_decide_eq_true (by kernel_rfl)) (by kernel_rfl) rfl (by kernel_rfl) (by kernel_rfl) Tryz.underlying3 }
end Go.Proofs.YteefodibpjgicaaGreat

namespace Go.Proofs.YteefodibpjgicaaGreat
open Go.RowKit
def Glo (w : World) : Prop:=∃ m : Int,w.cell? ⟨0,0,none⟩ = some (.int .i64 m)
theorem Glo.below {B : Nat} {w w' : World} (h : Glo w) (hb : Below B w w') (hB : w.heap.size ≤ B) : Glo w':=by
  obtain ⟨m,hm⟩:=h
  exact ⟨m,by rw [hb.cell (Nat.lt_of_lt_of_le (World.block_lt_of_cell? w _ hm) hB)]; exact hm⟩
theorem named2 (s : ByteArray) (hs : s.size ≤ 1073741824) : Gives2 170 #[.string s] (M5.bs (M1.fold (s.data.toList.takeWhile M5.nameB))) (M5.bs (s.data.toList.dropWhile M5.nameB)):=fun w => tokNamed s w hs
theorem clone1 (s : ByteArray) (hs : s.size ≤ 1073741824) : Gives1 169 #[.string s] s:=fun w => sClone s w (by omega)
theorem cut_world {s sep : ByteArray} {w : World} (hg : Glo w) (hs : s.size ≤ 1073741824) (hsep : sep.data.toList ≠ []) :
    Calls Tryz.prog 175 #[.string s,.string sep] w fun e w' => ∃ b,e = .returned (.tuple #[.string (M5.bs (M5.uptoR sep.data.toList s.data.toList).1),.string (M5.bs (M5.uptoR sep.data.toList s.data.toList).2),.bool b]) ∧ Below w.heap.size w w':=by
  obtain ⟨m,hm⟩:=hg
  refine (Tryz.strings_Cut s sep m w (by omega) hm).mono ?_
  rintro e w' ⟨rfl,n,rfl⟩
  obtain ⟨e1,e2⟩:=M5.cut_upto sep.data.toList s.data.toList hsep
  exact ⟨_,by rw [e1,e2]; rfl,below_drewN (Below.refl _ _) n⟩
theorem dropk_bs (s : ByteArray) (k : Nat) : s.extract k s.size = M5.bs (s.data.toList.drop k):=by
  rw [bs_cut,List.take_of_length_le (by rw [List.length_drop]; exact Nat.le_refl _)]
theorem isEmpty_yes (s : ByteArray) (h : s.size = 0) : s.toList.isEmpty = true:=by
  rw [Lib.toList_data,List.isEmpty_iff]
  exact List.eq_nil_of_length_eq_zero h
theorem isEmpty_no (s : ByteArray) (h : 0 < s.size) : s.toList.isEmpty = false:=by
  rw [Lib.toList_data,List.isEmpty_eq_false_iff]
  intro e
  have : s.data.toList.length = s.size:=rfl
  rw [e] at this
  simp at this
  omega
theorem tokPost_nil {k : Int} {nm tx : ByteArray} {n : Nat} {z : Int} {w w' : World} (hz : z = (n : Int)) (hb : Below w.heap.size w w') :
    TokPost ⟨k,nm,[],tx⟩ n w (.returned (.tuple #[.agg #[.int .i64 k,.string nm,.slice none 0 0,.string tx],.int .i64 z])) w':=by
  subst hz
  exact ⟨.slice none 0 0,rfl,World.ownsRow_nil _ w.heap.size _ _,hb⟩
set_option maxHeartbeats 4000000 in
set_option maxRecDepth 100000 in
theorem tokRemark (s first last : ByteArray) (w : World) (hg : Glo w) (hs : s.size ≤ 1073741824) (hf : first.size ≤ s.size) (hl : last.data.toList ≠ []) :
    Calls Tryz.prog 165 #[.string s,.string first,.string last] w (TokPost (M5.remarkR last.data.toList (s.data.toList.drop first.size)).1 (s.size - (M5.remarkR last.data.toList (s.data.toList.drop first.size)).2.length) w):=by
  have hx : (s.extract first.size s.size).data.toList = s.data.toList.drop first.size:=by rw [dropk_bs,M5.bs_data]
  have hxs : (s.extract first.size s.size).size ≤ 1073741824:=by rw [ByteArray.size_extract]; omega
  have hC:=fun (w1 : World) (h : Glo w1) => cut_world (sep:=last) h hxs hl
  rw [hx] at hC
  have hsuf:=M5.upto_suf last.data.toList (s.data.toList.drop first.size)
  have hle:=hsuf.le
  rw [List.length_drop,show s.data.toList.length = s.size from rfl] at hle
  have hsuf2:=(hsuf.trans (M5.Suf.drop _ _)).at_
  unfold M5.remarkR
  obtain ⟨tx,htx⟩ : ∃ x,Hid (x = M5.bs (M5.uptoR last.data.toList (s.data.toList.drop first.size)).1):=⟨_,rfl⟩
  obtain ⟨rs,hrs⟩ : ∃ x,Hid (x = M5.bs (M5.uptoR last.data.toList (s.data.toList.drop first.size)).2):=⟨_,rfl⟩
  have htxs : tx.size ≤ 1073741824:=by
    rw [htx.out,bs_size]
    have : (M5.uptoR last.data.toList (s.data.toList.drop first.size)).1.length ≤ (s.data.toList.drop first.size).length:=by
      unfold M5.uptoR
      split
      · exact List.length_take_le' _ _
      · exact Nat.le_refl _
    rw [List.length_drop,show s.data.toList.length = s.size from rfl] at this
    omega
  have hrss : rs.size = (M5.uptoR last.data.toList (s.data.toList.drop first.size)).2.length:=by rw [hrs.out,bs_size]
  rw [← htx.out,← hrs.out] at hC
  rw [← htx.out]
  have hD:=clone1 tx htxs
  generalize (M5.uptoR last.data.toList (s.data.toList.drop first.size)).2 = R at *
  replace hC:=Lib.hid hC
  replace hD:=Lib.hid hD
  replace hsuf2:=Lib.hid hsuf2
  replace hx:=Lib.hid hx
  obtain ⟨wo,rfl⟩ : ∃ wo : World,wo = w:=⟨_,rfl⟩
  have bx0:=Box.new wo 87 [.int .i64 0,.string ⟨#[]⟩,.slice none 0 0,.string ⟨#[]⟩]
  have hb0:=(Below.refl _ wo).alloc (Nat.le_refl _) (.cells #[.int .i64 0,.string ⟨#[]⟩,.slice none 0 0,.string ⟨#[]⟩] 87)
  have hg0:=Lib.hid (hg.below hb0 (Nat.le_refl _))
  replace hb0:=Lib.hid hb0
  go_enter Tryz.func165,Tryz.ntmps165
  go_wp2_with fail
  refine (hC.out _ hg0.out).mono ?_
  rintro e1 w1 ⟨b,rfl,hb1⟩
  have bx1:=bx0.below hb1 bx0.lt
  have hbW1:=Lib.hid (bt hb0.out hb1)
  go_wp2_with fail
  refine (hD.out _).mono ?_
  rintro e1 w2 ⟨rfl,hb2⟩
  have bx2:=bx1.below hb2 bx1.lt
  have hbW2:=Lib.hid (bt hbW1.out hb2)
  have f0:=bx2.free
  have z0:=bx2.cell (i:=0) rfl
  have z1:=bx2.cell (i:=1) rfl
  have z2:=bx2.cell (i:=2) rfl
  have z3:=bx2.cell (i:=3) rfl
  have hsub : ¬ ((s.size : Int) - (R.length : Int) < 0):=by omega
  go_wp2_with fail
  have bf:=bx2.four (.int .i64 4) (.string ⟨#[]⟩) (.slice none 0 0) (.string tx)
  have q0:=bf.cell (i:=0) rfl
  have q1:=bf.cell (i:=1) rfl
  have q2:=bf.cell (i:=2) rfl
  have q3:=bf.cell (i:=3) rfl
  exact bodyPost_ret (v:=.tuple #[.agg #[.int .i64 4,.string ⟨#[]⟩,.slice none 0 0,.string tx],.int .i64 ((s.size : Int) - (R.length : Int))]) (by simp [results,Tryz.results165,go_sem,q0,q1,q2,q3]) rfl (tokPost_nil (by omega) (four_below hbW2.out _ _ _ _ (Nat.le_refl _)))
set_option maxHeartbeats 4000000 in
set_option maxRecDepth 100000 in
theorem tokEnd (s : ByteArray) (w : World) (hs : s.size ≤ 1073741824) (h2 : 2 ≤ s.size) :
    Calls Tryz.prog 164 #[.string s] w (TokPost (M5.endR (s.data.toList.drop 2)).1 (s.size - (M5.endR (s.data.toList.drop 2)).2.length) w):=by
  have hx : (s.extract 2 s.size).data.toList = s.data.toList.drop 2:=by rw [dropk_bs,M5.bs_data]
  have hxs : (s.extract 2 s.size).size ≤ 1073741824:=by rw [ByteArray.size_extract]; omega
  have hN:=named2 (s.extract 2 s.size) hxs
  have hdl : (s.data.toList.drop 2).length = s.size - 2:=by rw [List.length_drop]; rfl
  rw [hx] at hN
  obtain ⟨nm,hnm⟩ : ∃ x,Hid (x = M5.bs (M1.fold ((s.data.toList.drop 2).takeWhile M5.nameB))):=⟨_,rfl⟩
  obtain ⟨s1,hs1⟩ : ∃ x,Hid (x = M5.bs ((s.data.toList.drop 2).dropWhile M5.nameB)):=⟨_,rfl⟩
  rw [← hnm.out,← hs1.out] at hN
  have hs1l : s1.size ≤ s.size - 2:=by rw [hs1.out,bs_size,← hdl]; exact (List.dropWhile_suffix _).length_le
  have hT:=take2 asksEnd s1 (by omega)
  obtain ⟨x2,hx2⟩ : ∃ x,Hid (x = M5.bs (s1.data.toList.takeWhile (· != 62))):=⟨_,rfl⟩
  obtain ⟨s2,hs2⟩ : ∃ x,Hid (x = M5.bs (s1.data.toList.dropWhile (· != 62))):=⟨_,rfl⟩
  rw [← hx2.out,← hs2.out] at hT
  have hs2e : s2 = M5.bs ((s.data.toList.drop 2).drop (M5.findL [62] (s.data.toList.drop 2))):=by rw [hs2.out,hs1.out,M5.bs_data,M5.drop_name]
  have hs2z : s2.size = s.size - 2 - M5.findL [62] (s.data.toList.drop 2):=by rw [hs2e,bs_size,List.length_drop,hdl]
  have hE : Hid (M5.endR (s.data.toList.drop 2) = if M5.findL [62] (s.data.toList.drop 2) < s.size - 2 then (⟨2,nm,[],⟨#[]⟩⟩,s.data.toList.drop (2 + (M5.findL [62] (s.data.toList.drop 2) + 1))) else (M5.zero,[])):=by
    show _ = _
    rw [M5.endR,hdl,hnm.out,List.drop_drop]
  rw [hE.out]
  have hfl:=M5.findL_le [62] (s.data.toList.drop 2)
  rw [hdl] at hfl
  generalize M5.findL [62] (s.data.toList.drop 2) = F at *
  replace hN:=Lib.hid hN
  replace hT:=Lib.hid hT
  replace hs2e:=Lib.hid hs2e
  replace hx:=Lib.hid hx
  replace hdl:=Lib.hid hdl
  obtain ⟨wo,rfl⟩ : ∃ wo : World,wo = w:=⟨_,rfl⟩
  have bx0:=Box.new wo 87 [.int .i64 0,.string ⟨#[]⟩,.slice none 0 0,.string ⟨#[]⟩]
  have hb0:=Lib.hid ((Below.refl _ wo).alloc (Nat.le_refl _) (.cells #[.int .i64 0,.string ⟨#[]⟩,.slice none 0 0,.string ⟨#[]⟩] 87))
  by_cases hF : F < s.size - 2
  · rw [if_pos hF]
    have hne : s2.toList.isEmpty = false:=isEmpty_no s2 (by omega)
    have hlen : (s.data.toList.drop (2 + (F + 1))).length = s.size - (2 + (F + 1)):=by rw [List.length_drop]; rfl
    replace hlen:=Lib.hid hlen
    go_enter Tryz.func164,Tryz.ntmps164
    go_wp2_with fail
    refine (hN.out _).mono ?_
    rintro e1 w1 ⟨rfl,hb1⟩
    have bx1:=bx0.below hb1 bx0.lt
    have hbW1:=Lib.hid (bt hb0.out hb1)
    go_wp2_with fail
    refine (hT.out _).mono ?_
    rintro e1 w2 ⟨rfl,hb2⟩
    have bx2:=bx1.below hb2 bx1.lt
    have hbW2:=Lib.hid (bt hbW1.out hb2)
    have f0:=bx2.free
    have z0:=bx2.cell (i:=0) rfl
    have z1:=bx2.cell (i:=1) rfl
    have z2:=bx2.cell (i:=2) rfl
    have z3:=bx2.cell (i:=3) rfl
    have bf:=Lib.hid (bx2.four (.int .i64 2) (.string nm) (.slice none 0 0) (.string ⟨#[]⟩))
    clear hb1 hb2
    go_wp2_with fail
    have q0:=bf.out.cell (i:=0) rfl
    have q1:=bf.out.cell (i:=1) rfl
    have q2:=bf.out.cell (i:=2) rfl
    have q3:=bf.out.cell (i:=3) rfl
    exact bodyPost_ret (v:=.tuple #[.agg #[.int .i64 2,.string nm,.slice none 0 0,.string ⟨#[]⟩],.int .i64 ((s.size : Int) - ((s.size - 2 - F : Nat) : Int) + 1)]) (by simp [results,Tryz.results164,go_sem,q0,q1,q2,q3]) rfl (tokPost_nil (by have:=hlen.out; omega) (four_below hbW2.out _ _ _ _ (Nat.le_refl _)))
  · rw [if_neg hF]
    have hze : s2.size = 0:=by omega
    have hne : s2.toList.isEmpty = true:=isEmpty_yes s2 hze
    replace hze:=Lib.hid hze
    go_enter Tryz.func164,Tryz.ntmps164
    go_wp2_with fail
    refine (hN.out _).mono ?_
    rintro e1 w1 ⟨rfl,hb1⟩
    have bx1:=bx0.below hb1 bx0.lt
    have hbW1:=Lib.hid (bt hb0.out hb1)
    go_wp2_with fail
    refine (hT.out _).mono ?_
    rintro e1 w2 ⟨rfl,hb2⟩
    have bx2:=bx1.below hb2 bx1.lt
    have hbW2:=Lib.hid (bt hbW1.out hb2)
    have f0:=bx2.free
    have z0:=bx2.cell (i:=0) rfl
    have z1:=bx2.cell (i:=1) rfl
    have z2:=bx2.cell (i:=2) rfl
    have z3:=bx2.cell (i:=3) rfl
    have bf:=Lib.hid (bx2.four (.int .i64 0) (.string ⟨#[]⟩) (.slice none 0 0) (.string ⟨#[]⟩))
    clear hb1 hb2
    go_wp2_with fail
    have q0:=bf.out.cell (i:=0) rfl
    have q1:=bf.out.cell (i:=1) rfl
    have q2:=bf.out.cell (i:=2) rfl
    have q3:=bf.out.cell (i:=3) rfl
    exact bodyPost_ret (v:=.tuple #[.agg #[.int .i64 0,.string ⟨#[]⟩,.slice none 0 0,.string ⟨#[]⟩],.int .i64 (s.size : Int)]) (by simp [results,Tryz.results164,go_sem,q0,q1,q2,q3]) rfl (tokPost_nil (by show _ = ((s.size - 0 : Nat) : Int); omega) (four_below hbW2.out _ _ _ _ (Nat.le_refl _)))
end Go.Proofs.YteefodibpjgicaaGreat
