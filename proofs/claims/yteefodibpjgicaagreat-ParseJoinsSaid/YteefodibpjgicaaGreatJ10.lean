/- Texts joined: Ref04, Par2, Par3, Math7c, Math8a, Math5g, Math5h, Math5i, Math5j, Math8b, Math8d, Math8g, Math8h, Mod2, Ref06b, Ref06d. -/
import Derived.BigQuiet
import Derived.Test.YteefodibpjgicaaGreatRows
import Derived.Lib.SlBytesConst
import Derived.Test.YteefodibpjgicaaGreatJ1
import Derived.Test.YteefodibpjgicaaGreatJ2
import Derived.Test.YteefodibpjgicaaGreatJ3
import Derived.Test.YteefodibpjgicaaGreatJ4
import Derived.Test.YteefodibpjgicaaGreatJ5
import Derived.Test.YteefodibpjgicaaGreatJ6
import Derived.Test.YteefodibpjgicaaGreatJ7
import Derived.Test.YteefodibpjgicaaGreatJ8
import Derived.Test.YteefodibpjgicaaGreatJ9
namespace Go.Proofs.YteefodibpjgicaaGreat
open Go.RowKit
theorem wr_meas4 {n k : Nat} (h : k < n) : n - (intOf (.int .i64 ((k : Int) + 1))).toNat < n - (intOf (.int .i64 (k : Int))).toNat := by
  simp [intOf]; omega
def TxtPost (out : List UInt8) (w : World) (e : Ending) (w' : World) : Prop := e = .returned (.string ⟨out.toArray⟩) ∧ Below w.heap.size w w'
theorem cat_two (a b : List UInt8) : (⟨a.toArray⟩ : ByteArray) ++ (⟨b.toArray⟩ : ByteArray) = ⟨(a ++ b).toArray⟩ := by rw [cat_mk]
set_option maxHeartbeats 4000000 in
set_option maxRecDepth 100000 in
theorem ref04Open (S : Nat → Prop) (x : Nd) (va vk : Value) (w : World) (hS : ∀ b, S b → b < w.heap.size) (hx : RepV S w x va vk) (hf : Fit1 x) :
    Calls Tryz.prog 63 #[x.val va vk] w (TxtPost (M4.openB x) w) := by
  obtain ⟨a1, e1, rfl⟩ := hx.at_.slice
  obtain ⟨a2, e2, rfl⟩ := hx.kids.slice
  obtain ⟨_, hlc, hcm⟩ := hx.at_.len
  have b0 : Below w.heap.size w (w.alloc (.cells (x.cells (.slice a1 x.attrs.length e1) (.slice a2 x.kids.length e2)).toArray 41)) := (Below.refl _ w).alloc (Nat.le_refl _) _
  have hz0 : (w.alloc (.cells (x.cells (.slice a1 x.attrs.length e1) (.slice a2 x.kids.length e2)).toArray 41)).heap.size = w.heap.size + 1 := by simp
  have hbx := Box.new w 41 (x.cells (.slice a1 x.attrs.length e1) (.slice a2 x.kids.length e2))
  by_cases k1 : x.kind = 1
  · have e0 : M4.openB x = M4.headB x.name x.attrs := by unfold M4.openB; rw [if_pos k1]
    rw [e0]
    clear e0
    have k1b : (x.kind != 1) = false := by simpa using k1
    replace k1 := Lib.hid k1
    have hat := Lib.hid (fun (W : World) (hW : Below w.heap.size w W) => hx.at_.keep (w' := W) (fun b h => hW.block b (hS b h)))
    have hfa := Lib.hid hf.2.2.1
    have hln := hf.1
    have hlw := hf.2.2.2
    have hal := M4.attsB_len x.attrs hf.2.2.1
    clear hx hf
    cases x with | mk k n ats t ks =>
    simp only [Nd.kind, Nd.name, Nd.text, Nd.attrs, Nd.kids, Nd.val] at *
    replace hz0 := Lib.hid hz0
    go_enter Tryz.func63, Tryz.ntmps63
    go_wp2_with fail
    go_loopw [3, 4] (fun u3 u4 wr => ∃ (i : Nat) (o : ByteArray), i ≤ ats.length ∧ u4 = .int .i64 (i : Int) ∧ u3 = .string o ∧ o.data.toList = 60 :: n.data.toList ++ M4.attsB (ats.take i) ∧ Below (w.heap.size + 1) (w.alloc (.cells #[.int .i64 k, .string n, .slice a1 ats.length e1, .string t, .slice a2 ks.length e2] 41)) wr) (fun _ u4 _ => ats.length - (intOf u4).toNat)
    case atStart => exact ⟨0, _, by omega, rfl, rfl, by rw [List.take_zero]; simp [M4.attsB], Below.refl _ _⟩
    case round =>
      obtain ⟨i, o, hi, rfl, rfl, ho, hb⟩ := hrel
      have hbx1 := hbx.below hb (by omega)
      have d2 := hbx1.cell (i := 2) rfl
      have hbw : Below w.heap.size w wr := b0.trans (hb.mono (by omega))
      have hpre := M4.attsB_prefix ats i
      have hos : o.size = 1 + n.size + (M4.attsB (ats.take i)).length := by
        show o.data.toList.length = _
        rw [ho]; simp; show n.size + _ + 1 = _; omega
      by_cases hlt : i < ats.length
      · obtain ⟨b, off, rfl, hSb, q0, q1⟩ := (hat.out wr hbw).atA i hlt
        have hbl := hS b hSb
        obtain ⟨hfn, hfv⟩ := hfa.out _ (List.getElem_mem hlt)
        have htk := M4.attsB_take ats i hlt
        have hEs := Lib.hid (fun W => ref02Escape ats[i].value true W (by omega))
        have hel := M2.escape_len true ats[i].value.data.toList
        have hel2 : ats[i].value.data.toList.length = ats[i].value.size := rfl
        have fin : Hid ((o ++ ⟨#[32]⟩ ++ ats[i].name ++ ⟨#[61, 34]⟩ ++ ⟨(M2.escape true ats[i].value.data.toList).toArray⟩ ++ ⟨#[34]⟩ : ByteArray).data.toList = 60 :: n.data.toList ++ M4.attsB (ats.take (i + 1))) := by
          show _ = _
          rw [htk, M4.attB]
          simp [ho]
        generalize hA2 : M4.attsB (ats.take (i + 1)) = A2 at *
        replace hA2 := Lib.hid hA2
        generalize ats[i].name = nm at *
        generalize ats[i].value = vl at *
        replace ho := Lib.hid ho
        replace htk := Lib.hid htk
        have hes : (⟨(M2.escape true vl.data.toList).toArray⟩ : ByteArray).size ≤ 1610612736 := by show (M2.escape true vl.data.toList).length ≤ _; omega
        generalize (⟨(M2.escape true vl.data.toList).toArray⟩ : ByteArray) = ev at *
        clear hel hel2
        have hI0 : (i : Int) < (ats.length : Int) := by omega
        have hI1 : (0 : Int) ≤ (i : Int) := by omega
        go_wp2_with fail
        go_quiet ((go_at_call 61; exact Calls.quiet_of_same (hEs.out _)))
        go_wp2_with fail
        go_roundw
        case rel => exact ⟨i + 1, _, by omega, by go_num, rfl, by rw [hA2.out]; exact fin.out, below_drewN hb _⟩
        case measure => exact wr_meas4 hlt
      · obtain rfl : i = ats.length := by omega
        rw [List.take_length] at ho hos
        have fin : Hid ((o ++ ⟨#[62]⟩ : ByteArray) = ⟨(M4.headB n ats).toArray⟩) := by
          show _ = _
          apply ByteArray.ext
          apply Array.ext'
          simp [ho, M4.headB]
        replace ho := Lib.hid ho
        go_wp2_with fail
        go_ret
        exact ⟨by rw [fin.out]; rfl, hbw⟩
  · have e0 : M4.openB x = [] := by unfold M4.openB; rw [if_neg k1]
    rw [e0]
    have k1b : (x.kind != 1) = true := by simpa using k1
    replace k1 := Lib.hid k1
    clear e0
    replace b0 := Lib.hid b0
    go_enter Tryz.func63, Tryz.ntmps63
    go_wp2_with fail
    go_ret
    exact ⟨rfl, b0.out⟩
theorem weight_mem' {x : Nd} {l : List Nd} (h : x ∈ l) : 1 + M3.weight x.kids ≤ M3.weight l := by
  have := weight_mem h
  omega
theorem str_two (a : List UInt8) (o : ByteArray) (h : o.data.toList = a) : o = ⟨a.toArray⟩ := by
  subst h
  cases o
  simp
set_option maxHeartbeats 8000000 in
set_option maxRecDepth 100000 in
theorem ref04one (wt : Nat) : ∀ (S : Nat → Prop) (x : Nd) (va vk : Value) (raw : Bool) (w : World), 1 + M3.weight x.kids < wt → (∀ b, S b → b < w.heap.size) → RepV S w x va vk → Fit1 x → FitN x.kids → (M4.oneB raw x).length ≤ 70368744177664 →
    Calls Tryz.prog 41 #[x.val va vk, .bool raw] w (TxtPost (M4.oneB raw x) w) := by
  induction wt with
  | zero => intro S x va vk raw w h; omega
  | succ wt ih =>
  intro S x va vk raw w hwt hS hx hf hfk hl
  have hOp := Lib.hid (fun W (hW : Below w.heap.size w W) => ref04Open S x va vk W (fun b h => Nat.lt_of_lt_of_le (hS b h) hW.size) (hx.keep (fun b h => hW.block b (hS b h))) hf)
  obtain ⟨a1, e1, rfl⟩ := hx.at_.slice
  obtain ⟨a2, e2, rfl⟩ := hx.kids.slice
  have b0 : Below w.heap.size w (w.alloc (.cells (x.cells (.slice a1 x.attrs.length e1) (.slice a2 x.kids.length e2)).toArray 41)) := (Below.refl _ w).alloc (Nat.le_refl _) _
  have hz0 : (w.alloc (.cells (x.cells (.slice a1 x.attrs.length e1) (.slice a2 x.kids.length e2)).toArray 41)).heap.size = w.heap.size + 1 := by simp
  have hbx := Box.new w 41 (x.cells (.slice a1 x.attrs.length e1) (.slice a2 x.kids.length e2))
  have hts := hf.2.1
  have hns := hf.1
  have hlw := hf.2.2.2
  replace ih := Lib.hid ih
  by_cases k3 : x.kind = 3
  · have e0 := M4.oneB_3 (raw := raw) k3
    have fin : Hid ((⟨#[60, 33, 45, 45]⟩ ++ x.text ++ ⟨#[45, 45, 62]⟩ : ByteArray) = ⟨(M4.oneB raw x).toArray⟩) := by
      refine str_two _ _ ?_
      rw [e0, M4.commB]; simp
    have k3b : (x.kind == 3) = true := by simpa using k3
    replace k3 := Lib.hid k3
    replace b0 := Lib.hid b0
    clear hOp e0 hbx hx hf
    go_enter Tryz.func41, Tryz.ntmps41
    go_wp2_with fail
    go_ret
    exact ⟨by rw [fin.out]; rfl, b0.out⟩
  have k3b : (x.kind == 3) = false := by simpa using k3
  by_cases k2 : x.kind = 2
  · have e0 := M4.oneB_2 (raw := raw) k2
    have k2b : (x.kind == 2) = true := by simpa using k2
    have hEs := Lib.hid (fun W => ref02Escape x.text false W (by omega))
    replace k2 := Lib.hid k2
    replace b0 := Lib.hid b0
    replace e0 := Lib.hid e0
    clear hOp hbx hx hf k3
    cases raw
    · go_enter Tryz.func41, Tryz.ntmps41
      go_wp2_with fail
      refine (hEs.out _).mono ?_
      rintro e w1 ⟨rfl, rfl⟩
      go_wp2_with fail
      go_ret
      exact ⟨by rw [e0.out]; rfl, b0.out⟩
    · go_enter Tryz.func41, Tryz.ntmps41
      go_wp2_with fail
      go_ret
      exact ⟨by rw [e0.out, show M4.charsB true x.text = x.text.data.toList from rfl, ← str_two _ x.text rfl]; rfl, b0.out⟩
  have k2b : (x.kind == 2) = false := by simpa using k2
  by_cases k1 : x.kind = 1
  · have e0 := M4.oneB_1 (raw := raw) k1
    have k1b : (x.kind != 1) = false := by simpa using k1
    have eop : M4.openB x = M4.headB x.name x.attrs := by unfold M4.openB; rw [if_pos k1]
    rw [eop] at hOp
    rw [e0] at hl ⊢
    have hkd := hx.kids
    clear e0 eop hf hx k2 k3
    replace k1 := Lib.hid k1
    cases x with | mk k n ats t ks =>
    simp only [Nd.kind, Nd.name, Nd.text, Nd.attrs, Nd.kids, Nd.val] at hwt hkd hfk hl hOp b0 hbx hz0 hlw hns hts k1b k2b k3b ⊢
    go_enter Tryz.func41, Tryz.ntmps41
    go_wp2_with fail
    refine (ref03Void _ _).mono ?_
    rintro e w1 ⟨rfl, rfl⟩
    cases hvd : M3.voidB n.data.toList
    · rw [hvd, M4.innerB_no] at hl
      go_wp2_with fail
      refine (ref03Raw _ _).mono ?_
      rintro e w1 ⟨rfl, rfl⟩
      have hOp2 := Lib.hid (hOp.out _ b0)
      generalize hrw : M3.rawB n.data.toList = rw_ at *
      replace hrw := Lib.hid hrw
      clear hOp
      go_wp2_with fail
      refine hOp2.out.mono ?_
      rintro e w1 ⟨rfl, hb1⟩
      have hbx1 := hbx.below hb1 (by omega)
      clear hOp2
      have hz1 := hb1.size
      have hbw1 := bt b0 hb1
      have h0 : Hid ((⟨(M4.headB n ats).toArray⟩ : ByteArray).data.toList = M4.headB n ats ++ M4.textB rw_ (ks.take 0)) := by show _ = _; rw [List.take_zero, M4.textB_nil]; simp
      go_wp2_with fail
      go_loopw [7, 8] (fun u7 u8 wr => ∃ (i : Nat) (o : ByteArray), i ≤ ks.length ∧ u8 = .int .i64 (i : Int) ∧ u7 = .string o ∧ Hid (o.data.toList = M4.headB n ats ++ M4.textB rw_ (ks.take i)) ∧ Below w1.heap.size w1 wr) (fun _ u8 _ => ks.length - (intOf u8).toNat)
      case atStart => exact ⟨0, _, by omega, rfl, rfl, h0, Below.refl _ _⟩
      case round =>
        obtain ⟨i, o, hi, rfl, rfl, ho, hb⟩ := hrel
        have hbx2 := hbx1.below hb hbx1.lt
        have d4 := hbx2.cell (i := 4) rfl
        have hbw : Below w.heap.size w wr := bt hbw1 hb
        obtain ⟨_, hlc, hcm⟩ := hkd.len
        have hos : o.size = (M4.headB n ats).length + (M4.textB rw_ (ks.take i)).length := by
          show o.data.toList.length = _
          rw [ho.out, List.length_append]
        by_cases hlt : i < ks.length
        · obtain ⟨b, off, va, vk, rfl, hSb, c0, c1, c2, c3, c4, hrv⟩ := hkd.look hS hbw i hlt
          have hbl := hS b hSb
          have hfx := fitN_mem hfk (List.getElem_mem hlt)
          have hwk := weight_mem' (List.getElem_mem hlt)
          have hpre := M4.textB_prefix rw_ ks (i + 1)
          have htk := M4.textB_take rw_ ks i hlt
          have hpre2 : (M4.textB rw_ (ks.take i)).length + (M4.oneB rw_ ks[i]).length ≤ (M4.textB rw_ ks).length := by rw [htk, List.length_append] at hpre; exact hpre
          rw [List.length_append, List.length_append] at hl
          have hih := Lib.hid (ih.out S ks[i] va vk rw_ wr (by omega) (fun b h => Nat.lt_of_lt_of_le (hS b h) hbw.size) (hrv.keep (fun b h => hbw.block b (hS b h))) hfx.1 hfx.2 (by omega))
          have fin : Hid ((o ++ ⟨(M4.oneB rw_ ks[i]).toArray⟩ : ByteArray).data.toList = M4.headB n ats ++ M4.textB rw_ (ks.take (i + 1))) := by
            show _ = _
            rw [htk]; simp [ho.out]
          have hsz2 : (⟨(M4.oneB rw_ ks[i]).toArray⟩ : ByteArray).size = (M4.oneB rw_ ks[i]).length := rfl
          have hsm : o.size + (⟨(M4.oneB rw_ ks[i]).toArray⟩ : ByteArray).size ≤ 70368744177664 := by rw [hsz2]; omega
          clear hpre htk hpre2 hsz2
          generalize hA2 : M4.textB rw_ (ks.take (i + 1)) = A2 at *
          replace hA2 := Lib.hid hA2
          replace hos := Lib.hid hos
          generalize ks[i] = y at *
          obtain ⟨a3, e3, rfl⟩ := hrv.at_.slice
          obtain ⟨a4, e4, rfl⟩ := hrv.kids.slice
          generalize M4.oneB rw_ y = ev at *
          clear hrv
          have hI0 : (i : Int) < (ks.length : Int) := by omega
          go_wp2_with fail
          refine hih.out.mono ?_
          rintro e w2 ⟨rfl, hb2⟩
          have hb3 := bt hb (hb2.mono (Nat.le_refl _))
          clear hih
          generalize (⟨ev.toArray⟩ : ByteArray) = eb at *
          go_wp2_with fail
          go_roundw
          case rel => exact ⟨i + 1, _, by omega, by go_num, rfl, by rw [hA2.out]; exact fin, hb3⟩
          case measure => exact wr_meas4 hlt
        · obtain rfl : i = ks.length := by omega
          rw [List.take_length] at ho hos
          have hel : M4.endB n = [60, 47] ++ (n.data.toList ++ [62]) := by unfold M4.endB; rw [hvd]; rfl
          have fin : Hid ((o ++ ⟨#[60, 47]⟩ ++ n ++ ⟨#[62]⟩ : ByteArray) = ⟨(M4.headB n ats ++ (M4.textB rw_ ks ++ M4.endB n)).toArray⟩) := by
            refine str_two _ _ ?_
            rw [hel]; simp [ho.out]
          have d1 : wr.cell? ⟨w.heap.size, 1, none⟩ = some (.string n) := hbx2.cell (i := 1) rfl
          rw [List.length_append, List.length_append] at hl
          have hos2 : o.size ≤ 70368744177664 := by omega
          replace hel := Lib.hid hel
          replace hos := Lib.hid hos
          go_wp2_with fail
          go_ret
          exact ⟨by rw [M4.innerB_no, ← fin.out]; rfl, hbw⟩
    · rw [hvd, M4.innerB_yes] at hl
      have hOp2 := Lib.hid (hOp.out _ b0)
      have e3 : M4.endB n = [] := by unfold M4.endB; rw [hvd]; rfl
      go_wp2_with fail
      refine hOp2.out.mono ?_
      rintro e w1 ⟨rfl, hb1⟩
      have hbb := Lib.hid (bt b0 hb1)
      go_wp2_with fail
      go_ret
      exact ⟨by rw [hvd, M4.innerB_yes, e3]; simp, hbb.out⟩
  · have e0 := M4.oneB_4 (raw := raw) k1 k2 k3
    rw [e0]
    have k1b : (x.kind != 1) = true := by simpa using k1
    replace k1 := Lib.hid k1
    replace b0 := Lib.hid b0
    clear e0 hOp hbx hx hf k2 k3
    go_enter Tryz.func41, Tryz.ntmps41
    go_wp2_with fail
    go_ret
    exact ⟨rfl, b0.out⟩
set_option maxHeartbeats 4000000 in
set_option maxRecDepth 100000 in
theorem ref04Text (S : Nat → Prop) (v : Value) (l : List Nd) (w : World) (hS : ∀ b, S b → b < w.heap.size) (hr : RepN S w v l) (hfit : FitN l) (hl : (M4.textB false l).length ≤ 70368744177664) :
    Calls Tryz.prog 26 #[v] w (TxtPost (M4.textB false l) w) := by
  obtain ⟨a, cap, rfl⟩ := hr.slice
  obtain ⟨_, hlc, hcm⟩ := hr.len
  replace hfit := Lib.hid hfit
  have h0 : Hid ((⟨#[]⟩ : ByteArray).data.toList = M4.textB false (l.take 0)) := by show _ = _; rw [List.take_zero, M4.textB_nil]
  go_enter Tryz.func26, Tryz.ntmps26
  go_wp2_with fail
  go_loopw [3, 4] (fun u3 u4 wr => ∃ (i : Nat) (o : ByteArray), i ≤ l.length ∧ u4 = .int .i64 (i : Int) ∧ u3 = .string o ∧ Hid (o.data.toList = M4.textB false (l.take i)) ∧ Below w.heap.size w wr) (fun _ u4 _ => l.length - (intOf u4).toNat)
  case atStart => exact ⟨0, _, by omega, rfl, rfl, h0, Below.refl _ _⟩
  case round =>
    obtain ⟨i, o, hi, rfl, rfl, ho, hb⟩ := hrel
    have hos : o.size = (M4.textB false (l.take i)).length := by
      show o.data.toList.length = _
      rw [ho.out]
    by_cases hlt : i < l.length
    · obtain ⟨b, off, va, vk, rfl, hSb, c0, c1, c2, c3, c4, hrv⟩ := hr.look hS hb i hlt
      have hbl := hS b hSb
      have hfx := fitN_mem hfit.out (List.getElem_mem hlt)
      have hpre := M4.textB_prefix false l (i + 1)
      have htk := M4.textB_take false l i hlt
      have hpre2 : (M4.textB false (l.take i)).length + (M4.oneB false l[i]).length ≤ (M4.textB false l).length := by rw [htk, List.length_append] at hpre; exact hpre
      have hih := Lib.hid (ref04one (1 + M3.weight l[i].kids + 1) S l[i] va vk false wr (by omega) (fun b h => Nat.lt_of_lt_of_le (hS b h) hb.size) (hrv.keep (fun b h => hb.block b (hS b h))) hfx.1 hfx.2 (by omega))
      have fin : Hid ((o ++ ⟨(M4.oneB false l[i]).toArray⟩ : ByteArray).data.toList = M4.textB false (l.take (i + 1))) := by
        show _ = _
        rw [htk]; simp [ho.out]
      have hsz2 : (⟨(M4.oneB false l[i]).toArray⟩ : ByteArray).size = (M4.oneB false l[i]).length := rfl
      have hsm : o.size + (⟨(M4.oneB false l[i]).toArray⟩ : ByteArray).size ≤ 70368744177664 := by rw [hsz2]; omega
      clear hpre htk hpre2 hsz2
      generalize hA2 : M4.textB false (l.take (i + 1)) = A2 at *
      replace hA2 := Lib.hid hA2
      replace hos := Lib.hid hos
      generalize l[i] = y at *
      obtain ⟨a3, e3, rfl⟩ := hrv.at_.slice
      obtain ⟨a4, e4, rfl⟩ := hrv.kids.slice
      generalize M4.oneB false y = ev at *
      clear hrv
      have hI0 : (i : Int) < (l.length : Int) := by omega
      go_wp2_with fail
      refine hih.out.mono ?_
      rintro e w2 ⟨rfl, hb2⟩
      have hb3 := bt hb hb2
      clear hih
      generalize (⟨ev.toArray⟩ : ByteArray) = eb at *
      go_wp2_with fail
      go_roundw
      case rel => exact ⟨i + 1, _, by omega, by go_num, rfl, by rw [hA2.out]; exact fin, hb3⟩
      case measure => exact wr_meas4 hlt
    · obtain rfl : i = l.length := by omega
      rw [List.take_length] at ho
      have fin : Hid (o = ⟨(M4.textB false l).toArray⟩) := str_two _ _ ho.out
      go_wp2_with fail
      go_ret
      exact ⟨by rw [← fin.out]; rfl, hb⟩
end Go.Proofs.YteefodibpjgicaaGreat

namespace Go.Proofs.YteefodibpjgicaaGreat
open Go.RowKit
theorem same_callP {w : World} {va vb : Value} {a b : List Nd} (ha : RepN (fun b => b < w.heap.size) w va a) (hb : RepN (fun b => b < w.heap.size) w vb b) : Calls Tryz.prog 38 #[va, vb] w (SamePost (M3.sameN a b) w) :=
  domSame (M3.weight a + 1) _ a b va vb w (Nat.lt_succ_self _) (fun _ h => h) ha hb
theorem same_callR {w : World} {va vb : Value} {a b : List Nd} (ha : RepN (fun b => b < w.heap.size) w va a) (hb : RepN (fun b => b < w.heap.size) w vb b) : Calls Tryz.prog 10 #[va, vb] w (SamePost (M3.sameN a b) w) :=
  ref03Same (M3.weight a + 1) _ a b va vb w (Nat.lt_succ_self _) (fun _ h => h) ha hb
theorem shr_lt {l : List Nd} {w w' : World} {v : Value} (h : RepN (fun b => False ∨ (w.heap.size ≤ b ∧ b < w'.heap.size)) w' v l) : RepN (fun b => b < w'.heap.size) w' v l := h.mono fun _ h => h.elim (fun h => h.elim) (fun h => h.2)
set_option maxHeartbeats 2000000 in
set_option maxRecDepth 100000 in
theorem parKeeps (S : Nat → Prop) (v : Value) (l : List Nd) (w : World) (hg : Glo w) (hS : ∀ b, S b → b < w.heap.size) (hr : RepN S w v l) (hf : FitN l) (hl : (M4.textB false l).length ≤ 1073741824) (hft : FitL (M5.tokens (M4.textB false l))) :
    Calls Tryz.prog 21 #[v] w (SamePost (M3.sameN (again l) l) w) := by
  have hA := Lib.hid (parAgain S v l w hg hS hr hf hl hft)
  obtain ⟨a, cap, rfl⟩ := hr.slice
  obtain ⟨wo, rfl⟩ : ∃ wo : World, wo = w := ⟨_, rfl⟩
  go_enter Tryz.func21, Tryz.ntmps21
  go_wp2_with fail
  refine hA.out.mono ?_
  rintro e w1 ⟨v1, rfl, hr1, hb⟩
  have hz := hb.size
  have hS1 := Lib.hid (same_callP (shr_lt hr1) ((hr.below hS hb).mono fun b h => by have := hS b h; omega))
  obtain ⟨a1, c1, rfl⟩ := hr1.slice
  clear hr1 hr
  go_wp2_with fail
  refine hS1.out.mono ?_
  rintro e w2 ⟨rfl, hb2⟩
  have hb02 := bt hb hb2
  go_wp2_with fail
  go_ret
  exact ⟨rfl, hb02⟩
namespace M5
end M5
end Go.Proofs.YteefodibpjgicaaGreat

namespace Go.Proofs.YteefodibpjgicaaGreat
open Go.RowKit
def exB8 : List UInt8 := [60, 112, 62, 97, 60, 100, 105, 118, 62, 98]
def exT8 : List UInt8 := [60, 112, 62, 97, 60, 47, 112, 62, 60, 100, 105, 118, 62, 98, 60, 47, 100, 105, 118, 62]
def exA8 : Nd := .mk 2 ⟨#[]⟩ [] ⟨#[97]⟩ []
def exC8 : Nd := .mk 2 ⟨#[]⟩ [] ⟨#[98]⟩ []
def exP8 : Nd := .mk 1 ⟨#[112]⟩ [] ⟨#[]⟩ [exA8]
def exD8 : Nd := .mk 1 ⟨#[100, 105, 118]⟩ [] ⟨#[]⟩ [exC8]
def exL8 : List Nd := [exP8, exD8]
theorem ex8_toks : M5.tokens exB8 = [⟨1, ⟨#[112]⟩, [], ⟨#[]⟩⟩, ⟨3, ⟨#[]⟩, [], ⟨#[97]⟩⟩, ⟨1, ⟨#[100, 105, 118]⟩, [], ⟨#[]⟩⟩, ⟨3, ⟨#[]⟩, [], ⟨#[98]⟩⟩] := by kernel_rfl
theorem ex8_tree : M7.tree [⟨1, ⟨#[112]⟩, [], ⟨#[]⟩⟩, ⟨3, ⟨#[]⟩, [], ⟨#[97]⟩⟩, ⟨1, ⟨#[100, 105, 118]⟩, [], ⟨#[]⟩⟩, ⟨3, ⟨#[]⟩, [], ⟨#[98]⟩⟩] = exL8 := by kernel_rfl
theorem ex8_text : M4.textB false exL8 = exT8 := by kernel_rfl
theorem ex8_again : M7.tree (M5.tokens exT8) = exL8 := by kernel_rfl
theorem ex8_right : M1.right exB8 = exB8 := by kernel_rfl
theorem ex8_may : M3.mayE false exL8 = 0 := by kernel_rfl
theorem ex8_keeps : again exL8 = exL8 := by
  unfold again
  rw [if_pos ex8_may, ex8_text, ex8_again]
theorem ex8_fit : FitN exL8 := by
  have h0' : M3.weight exA8.kids = 0 := by kernel_rfl
  have h0'' : M3.weight exC8.kids = 0 := by kernel_rfl
  have h1 : M3.weight exP8.kids = 1 := by kernel_rfl
  have h2 : M3.weight exD8.kids = 1 := by kernel_rfl
  refine fitN_cons.2 ⟨⟨by decide, by decide, ?_, by rw [h1]; decide⟩, fitN_cons.2 ⟨⟨by decide, by decide, ?_, by rw [h0']; decide⟩, fitN_nil, fitN_nil⟩, fitN_cons.2 ⟨⟨by decide, by decide, ?_, by rw [h2]; decide⟩, fitN_cons.2 ⟨⟨by decide, by decide, ?_, by rw [h0'']; decide⟩, fitN_nil, fitN_nil⟩, fitN_nil⟩⟩
  · intro a ha; simp [exP8, Nd.attrs] at ha
  · intro a ha; simp [exA8, Nd.attrs] at ha
  · intro a ha; simp [exD8, Nd.attrs] at ha
  · intro a ha; simp [exC8, Nd.attrs] at ha
set_option maxHeartbeats 4000000 in
set_option maxRecDepth 100000 in
theorem lives08 (w : World) (hg : Glo w) : Calls Tryz.prog 15 #[] w fun e w' => e = .returned (.bool true) ∧ Below w.heap.size w w' := by
  obtain ⟨wo, rfl⟩ : ∃ wo : World, wo = w := ⟨_, rfl⟩
  have hcv := fun (w : World) (C : Array Value) (n c : Nat) => Lib.run_convert_bytes_const (P := Tryz.prog) w 22 5 C n c Tryz.underlying22 Tryz.underlying5
  obtain ⟨w1, hw1⟩ : ∃ W, wo.alloc (.cells (u8s exB8).toArray 5 (10, 11)) = W := ⟨_, rfl⟩
  have bx : w1.heap[wo.heap.size]? = some (.cells (u8s exB8).toArray 5 (10, 11)) := by rw [← hw1]; exact heap_alloc_new wo _
  have hb1 : Below wo.heap.size wo w1 := by rw [← hw1]; exact (Below.refl _ _).alloc (Nat.le_refl _) _
  have hSl : Sl w1 (.slice (some ⟨wo.heap.size, 0, none⟩) 10 10) (u8s exB8) := by
    refine ⟨some ⟨wo.heap.size, 0, none⟩, 10, rfl, by decide, by decide, by simp, fun _ => ⟨wo.heap.size, 0, rfl, fun j hj => ?_⟩⟩
    rw [Nat.zero_add, cell_of_row w1 wo.heap.size j _ _ _ bx]
    simp
  have hP := Lib.hid (parBytes _ exB8 w1 (hg.below hb1 (Nat.le_refl _)) hSl (by decide))
  rw [ex8_right, ex8_toks, ex8_tree] at hP
  clear hSl bx
  go_enter Tryz.func15, Tryz.ntmps15
  go_wp2_with fail
  rw [show wo.alloc (.cells #[.int .u8 60, .int .u8 112, .int .u8 62, .int .u8 97, .int .u8 60, .int .u8 100, .int .u8 105, .int .u8 118, .int .u8 62, .int .u8 98] 5 (10, 11)) = w1 from hw1]
  clear hw1
  go_wp2_with fail
  refine hP.out.mono ?_
  rintro e w2 ⟨v2, rfl, hr2, hb2⟩
  have hR := shr_lt hr2
  have hb02 := bt hb1 hb2
  have hK := Lib.hid (parKeeps _ v2 exL8 w2 (hg.below hb02 (Nat.le_refl _)) (fun b h => h) hR ex8_fit (by rw [ex8_text]; decide) (M5.toks_fit _ (by rw [ex8_text]; decide)).1)
  rw [ex8_keeps, M3.sameN_self] at hK
  obtain ⟨a5, c5, rfl⟩ := hR.slice
  obtain ⟨b5, o5, va5, vk5, rfl, -, -, y1, -, -, y4, hrv⟩ := hR.at_ 0 (by decide)
  obtain ⟨b5', o5', va5', vk5', e5, -, -, z1, -, -, -, -⟩ := hR.at_ 1 (by decide)
  cases e5
  simp only [Nat.zero_mul, Nat.one_mul, Nat.add_zero] at y1 y4 z1
  obtain ⟨ak, ck, rfl⟩ := hrv.2.slice
  obtain ⟨b6, o6, va6, vk6, rfl, -, -, -, -, x3, -, -⟩ := hrv.2.at_ 0 (by decide)
  simp only [Nat.zero_mul, Nat.add_zero] at x3
  replace y1 : w2.cell? ⟨b5, o5 + 1, none⟩ = some (.string ⟨#[112]⟩) := y1
  replace y4 : w2.cell? ⟨b5, o5 + 4, none⟩ = some (.slice (some ⟨b6, o6, none⟩) 1 ck) := y4
  replace z1 : w2.cell? ⟨b5, o5 + 5 + 1, none⟩ = some (.string ⟨#[100, 105, 118]⟩) := z1
  replace x3 : w2.cell? ⟨b6, o6 + 3, none⟩ = some (.string ⟨#[97]⟩) := x3
  clear hr2 hR hrv hP
  change Hid (Calls Tryz.prog 21 #[.slice (some ⟨b5, o5, none⟩) 2 c5] w2 (SamePost true w2)) at hK
  go_wp2_with fail
  refine hK.out.mono ?_
  rintro e w3 ⟨rfl, hb3⟩
  have hb03 := bt hb02 hb3
  go_wp2_with fail
  go_ret
  exact ⟨rfl, hb03⟩
end Go.Proofs.YteefodibpjgicaaGreat

namespace Go.Proofs.YteefodibpjgicaaGreat
namespace M7
open M3 (isText withText cat push)
def lastT (pt : Bool) (L : List Nd) : Bool := match L.getLast? with | some y => y.kind == 2 | none => pt
theorem lastT_cons (pt : Bool) (y : Nd) (r : List Nd) : lastT pt (y :: r) = lastT (y.kind == 2) r := by
  unfold lastT
  rw [List.getLast?_cons]
  cases r.getLast? <;> rfl
def lastN (p : ByteArray) (o : List ByteArray) : ByteArray := o.getLast?.getD p
theorem lastN_take {o : List ByteArray} {n : Nat} (hn : n ≤ o.length) : lastN ⟨#[]⟩ (o.take n) = if n = 0 then ⟨#[]⟩ else o.getD (n - 1) ⟨#[]⟩ := by
  unfold lastN
  split
  · rename_i h; rw [h]; rfl
  · rename_i h
    rw [List.getLast?_eq_getElem?, List.length_take, Nat.min_eq_left hn, List.getElem?_take, if_pos (by omega)]
    rfl
end M7
end Go.Proofs.YteefodibpjgicaaGreat

namespace Go.Proofs.YteefodibpjgicaaGreat
namespace M7
open M3 (isText withText cat push mayE oneE)
def begT (x : Nd) : Tok := ⟨1, x.name, x.attrs, ⟨#[]⟩⟩
def endT (x : Nd) : Tok := ⟨2, x.name, [], ⟨#[]⟩⟩
def toksN : List Nd → List Tok
  | [] => []
  | .mk k n a t ks :: r =>
    (if k = 1 then ⟨1, n, a, ⟨#[]⟩⟩ :: (if M3.voidB n.data.toList then [] else toksN ks ++ [⟨2, n, [], ⟨#[]⟩⟩])
     else if k = 2 then [⟨3, ⟨#[]⟩, [], t⟩] else [⟨4, ⟨#[]⟩, [], t⟩]) ++ toksN r
termination_by l => SizeOf.sizeOf l
def tokOne (x : Nd) : List Tok :=
  if x.kind = 1 then begT x :: (if M3.voidB x.name.data.toList then [] else toksN x.kids ++ [endT x])
  else if x.kind = 2 then [⟨3, ⟨#[]⟩, [], x.text⟩] else [⟨4, ⟨#[]⟩, [], x.text⟩]
theorem toksN_nil : toksN [] = [] := by rw [toksN]
theorem toksN_cons (x : Nd) (r : List Nd) : toksN (x :: r) = tokOne x ++ toksN r := by cases x; rw [toksN]; rfl
theorem may_cons {p : Bool} {x : Nd} {r : List Nd} (h : mayE p (x :: r) = 0) : oneE x p = 0 ∧ mayE false x.kids = 0 ∧ mayE (x.kind == 2) r = 0 := by
  rw [M3.mayE_cons] at h
  by_cases h1 : oneE x p = 0
  · by_cases h2 : mayE false x.kids = 0
    · rw [if_neg (by simp [h1]), if_neg (by simp [h2])] at h
      exact ⟨h1, h2, h⟩
    · rw [if_neg (by simp [h1]), if_pos h2] at h
      exact absurd h h2
  · rw [if_pos h1] at h
    exact absurd h h1
theorem nil_of {s : ByteArray} (h : M3.nilB s = true) : s = ⟨#[]⟩ := by
  rw [M3.nilB_data'] at h
  cases s with
  | mk d => cases d with
    | mk l => cases l with
      | nil => rfl
      | cons a r => simp at h
theorem one_kinds {x : Nd} {p : Bool} (h : oneE x p = 0) :
    (x.kind = 1 ∧ x.text = ⟨#[]⟩ ∧ M3.namedB x.name.data.toList = true ∧ M3.namesE [] x.attrs = 0 ∧ M3.valuesE x.attrs = 0) ∨
    (x.kind = 2 ∧ x = .mk 2 ⟨#[]⟩ [] x.text [] ∧ M1.isB x.text.data.toList = true ∧ M3.nilB x.text = false ∧ p = false) ∨
    (x.kind = 3 ∧ x = .mk 3 ⟨#[]⟩ [] x.text [] ∧ M1.isB x.text.data.toList = true) := by
  unfold oneE at h
  have pl : ∀ k, x.kind = k → M3.plainB x = true → x = .mk k ⟨#[]⟩ [] x.text [] := fun k hk hp => by
    unfold M3.plainB at hp
    simp only [Bool.and_eq_true, List.isEmpty_iff] at hp
    obtain ⟨⟨h1, h2⟩, h3⟩ := hp
    have h1 := nil_of h1
    cases x with
    | mk kk n a t ks =>
      have hk : kk = k := hk
      have h1 : n = ⟨#[]⟩ := h1
      have h2 : a = [] := h2
      have h3 : ks = [] := h3
      subst hk h1 h2 h3
      rfl
  by_cases h1 : x.kind = 1
  · rw [if_pos h1] at h
    unfold M3.elemE at h
    left
    cases ht : M3.nilB x.text
    · simp [ht] at h
    · cases hn : M3.namedB x.name.data.toList
      · simp [ht, hn] at h
      · rw [ht, hn, if_pos rfl, if_pos rfl] at h
        by_cases ha : M3.namesE [] x.attrs = 0
        · rw [if_pos ha] at h
          exact ⟨h1, nil_of ht, rfl, ha, h⟩
        · rw [if_neg ha] at h
          exact absurd h ha
  rw [if_neg h1] at h
  by_cases h2 : x.kind = 2
  · rw [if_pos h2] at h
    right; left
    cases hp : M3.plainB x
    · simp [hp] at h
    · rw [hp, if_pos rfl] at h
      cases hb : M1.isB x.text.data.toList
      · simp [hb] at h
      · rw [hb] at h
        cases hn : M3.nilB x.text
        · cases hq : p
          · exact ⟨h2, pl 2 h2 hp, rfl, rfl, rfl⟩
          · simp [hn, hq] at h
        · simp [hn] at h
  rw [if_neg h2] at h
  by_cases h3 : x.kind = 3
  · rw [if_pos h3] at h
    right; right
    cases hp : M3.plainB x
    · simp [hp] at h
    · cases hb : M1.isB x.text.data.toList
      · simp [hp, hb] at h
      · exact ⟨h3, pl 3 h3 hp, rfl⟩
  · simp [if_neg h3] at h
theorem may_apart {l : List Nd} {p : Bool} (h : mayE p l = 0) : M3.apart p l = true := (M6.ok_of_may l p h).2
def putAll (d : Nat) (l : List Nd) (L : List Nd) : List Nd := l.foldl (fun L x => putN d x L) L
theorem wk_wk7 (x : Nd) (a b : List Nd) : wk (wk x a) b = wk x b := rfl
theorem putAll_snoc (d : Nat) (A : List Nd) (x : Nd) (l : List Nd) : putAll (d + 1) l (A ++ [x]) = A ++ [wk x (putAll d l x.kids)] := by
  induction l generalizing x with
  | nil => show A ++ [x] = A ++ [wk x x.kids]; cases x; rfl
  | cons y r ih =>
    show putAll (d + 1) r (putN (d + 1) y (A ++ [x])) = _
    rw [putN_snoc, ih]
    rfl
theorem putAll_kids {d : Nat} : ∀ {L : List Nd} (e : Nd) (ks : List Nd), okD d L → isText e = false → putAll (d + 1) ks (putN d e L) = putN d (wk e (ks.foldl push e.kids)) L := by
  induction d with
  | zero =>
    intro L e ks _ he
    have hp : ∀ e : Nd, isText e = false → push L e = L ++ [e] := fun e he => push_node e he
    show putAll 1 ks (push L e) = push L _
    rw [hp e he, hp _ (by exact he), putAll_snoc]
    rfl
  | succ d ih =>
    intro L e ks hok he
    rcases List.eq_nil_or_concat L with rfl | ⟨A, y, rfl⟩
    · exact hok.elim
    · rw [List.concat_eq_append] at *
      rw [okD_snoc] at hok
      rw [putN_snoc, putN_snoc, putAll_snoc, wk_wk7]
      show A ++ [wk y (putAll (d + 1) ks (putN d e y.kids))] = _
      rw [ih e ks hok he]
theorem closed_none (b : List UInt8) : M6.closesB [] b = false := by
  unfold M6.closesB M6.closedL
  simp
theorem closeAt_last {o : List ByteArray} {b : ByteArray} {d : Nat} (hd : o.length = d) (h : M6.closesB (lastN ⟨#[]⟩ o).data.toList b.data.toList = false) : closeAt o b d = d := by
  cases d with
  | zero => rfl
  | succ d =>
    rw [closeAt, if_neg]
    have : lastN ⟨#[]⟩ o = o.getD d ⟨#[]⟩ := by
      have := lastN_take (o := o) (n := d + 1) (by omega)
      rw [List.take_of_length_le (by omega), if_neg (by omega)] at this
      exact this
    rw [← this, h]
    simp
theorem endAt_last (o : List ByteArray) (nm : ByteArray) : endAt (o ++ [nm]) nm (o.length + 1) = some o.length := by
  rw [endAt, if_pos]
  simp
theorem run_nodes (l : List Nd) : ∀ (L : List Nd) (d : Nat) (p : Bool), okD d L → (∀ x ∈ l, x.kind = 1 → M6.closesB (lastN ⟨#[]⟩ (openN d L)).data.toList x.name.data.toList = false) → M6.allB l = true → mayE p l = 0 →
    (toksN l).foldl step ⟨L, d⟩ = ⟨putAll d l L, d⟩ := by
  induction l using Nd.ind with
  | h0 => intro L d p _ _ _ _; rw [toksN_nil]; rfl
  | h1 k n a t ks r ih1 ih2 =>
    intro L d p hok hc hall hmay
    obtain ⟨m1, m2, m3⟩ := may_cons hmay
    rw [M6.allB_cons, Bool.and_eq_true] at hall
    obtain ⟨a1, a2⟩ := hall
    unfold M6.oneS at a1
    simp only [Bool.and_eq_true] at a1
    obtain ⟨-, a3, a4⟩ := a1
    rw [toksN_cons, List.foldl_append]
    have key : (tokOne (.mk k n a t ks)).foldl step ⟨L, d⟩ = ⟨putN d (.mk k n a t ks) L, d⟩ := by
      rcases one_kinds m1 with ⟨hk, ht, -⟩ | ⟨hk, hx, -⟩ | ⟨hk, hx, -⟩
      · have hk : k = 1 := hk
        have ht : t = ⟨#[]⟩ := ht
        subst hk ht
        have hol := openN_len hok
        have hcl := closeAt_last hol (hc (.mk 1 n a ⟨#[]⟩ ks) (by simp) rfl)
        have hs1 : step ⟨L, d⟩ (begT (.mk 1 n a ⟨#[]⟩ ks)) = ⟨putN d (.mk 1 n a ⟨#[]⟩ []) L, if M3.voidB n.data.toList then d else d + 1⟩ := by
          unfold step
          rw [if_pos (show (begT (.mk 1 n a ⟨#[]⟩ ks)).kind = 1 from rfl)]
          show (⟨putN (closeAt (openN d L) n d) _ L, if _ then closeAt (openN d L) n d else closeAt (openN d L) n d + 1⟩ : St) = _
          rw [show closeAt (openN d L) n d = d from hcl]
          rfl
        unfold tokOne
        rw [if_pos (show (Nd.mk 1 n a ⟨#[]⟩ ks).kind = 1 from rfl)]
        show (if M3.voidB n.data.toList then [] else toksN ks ++ [endT (.mk 1 n a ⟨#[]⟩ ks)]).foldl step (step ⟨L, d⟩ _) = _
        rw [hs1]
        cases hv : M3.voidB n.data.toList
        · rw [if_neg Bool.false_ne_true, if_neg Bool.false_ne_true, List.foldl_append]
          obtain ⟨o1, o2, -⟩ := put_open (.mk 1 n a ⟨#[]⟩ []) hok rfl
          have hln : lastN ⟨#[]⟩ (openN (d + 1) (putN d (.mk 1 n a ⟨#[]⟩ []) L)) = n := by
            rw [o2]; unfold lastN; simp; rfl
          rw [ih1 _ (d + 1) false o1 (fun x hx hk => by
            rw [hln]
            have h := List.all_eq_true.1 a3 x hx
            unfold M6.fitsB at h
            change (if M3.voidB n.data.toList = true then false else if M3.rawB n.data.toList = true then isText x && _ else !(decide (x.kind = 1) && M6.closesB n.data.toList x.name.data.toList)) = true at h
            rw [hv, if_neg Bool.false_ne_true] at h
            split at h
            · rw [Bool.and_eq_true] at h
              have : x.kind = 2 := by simpa [isText] using h.1
              omega
            · simpa [hk] using h) a4 m2]
          have hks : putAll (d + 1) ks (putN d (.mk 1 n a ⟨#[]⟩ []) L) = putN d (.mk 1 n a ⟨#[]⟩ ks) L := by
            rw [putAll_kids _ ks hok rfl]
            have hm : ks.foldl push [] = ks := by
              have := M3.merge_apart ks [] (fun y h => by simp at h) (may_apart m2)
              simpa using this
            show putN d (wk (.mk 1 n a ⟨#[]⟩ []) (ks.foldl push [])) L = _
            rw [hm]
            rfl
          rw [hks]
          obtain ⟨q1, q2, -⟩ := put_open (.mk 1 n a ⟨#[]⟩ ks) hok rfl
          show step _ (endT _) = _
          unfold step
          rw [if_neg (show ¬ (endT (.mk 1 n a ⟨#[]⟩ ks)).kind = 1 by show ¬ (2 : Int) = 1; decide), if_pos (show (endT (.mk 1 n a ⟨#[]⟩ ks)).kind = 2 from rfl)]
          show (match endAt (openN (d + 1) (putN d _ L)) n (d + 1) with | some i => (⟨_, i⟩ : St) | none => _) = _
          rw [q2]
          have := endAt_last (openN d L) n
          rw [hol] at this
          rw [show (openN d L ++ [(Nd.mk 1 n a ⟨#[]⟩ ks).name]) = openN d L ++ [n] from rfl, this]
        · have hks : ks = [] := by
            cases ks with
            | nil => rfl
            | cons x r =>
              have h := List.all_eq_true.1 a3 x (by show x ∈ x :: r; simp)
              unfold M6.fitsB at h
              rw [show (Nd.mk 1 n a ⟨#[]⟩ (x :: r)).name = n from rfl, hv] at h
              simp at h
          subst hks
          rfl
      · unfold tokOne
        have hk : k = 2 := hk
        rw [if_neg (show ¬ (Nd.mk k n a t ks).kind = 1 by show ¬ k = 1; omega), if_pos (show (Nd.mk k n a t ks).kind = 2 from hk), hx]
        rfl
      · unfold tokOne
        have hk : k = 3 := hk
        rw [if_neg (show ¬ (Nd.mk k n a t ks).kind = 1 by show ¬ k = 1; omega), if_neg (show ¬ (Nd.mk k n a t ks).kind = 2 by show ¬ k = 2; omega), hx]
        rfl
    rw [key]
    obtain ⟨k1, k2, -⟩ := put_keeps (.mk k n a t ks) hok
    rw [ih2 _ d _ k1 (fun x hx => by rw [k2]; exact hc x (by simp [hx])) a2 m3]
    rfl
theorem tree_nodes {l : List Nd} (hall : M6.allB l = true) (hmay : mayE false l = 0) : tree (toksN l) = l := by
  show ((toksN l).foldl step ⟨[], 0⟩).L = l
  rw [run_nodes l [] 0 false trivial (fun x _ _ => closed_none _) hall hmay]
  show l.foldl push [] = l
  have := M3.merge_apart l [] (fun y h => by simp at h) (may_apart hmay)
  simpa using this
end M7
end Go.Proofs.YteefodibpjgicaaGreat

namespace Go.Proofs.YteefodibpjgicaaGreat.M5
theorem esc_lt (v : Bool) (c : UInt8) : ∀ x ∈ M2.esc v c, x ≠ 60 := by
  unfold M2.esc
  split
  · decide
  split
  · decide
  split
  · decide
  split
  · decide
  · rename_i h1 h2 h3 h4
    intro x hx
    simp at hx
    subst hx
    exact h2
theorem escape_lt (v : Bool) (l : List UInt8) : ∀ x ∈ M2.escape v l, x ≠ 60 := by
  intro x hx
  obtain ⟨c, _, h⟩ := List.mem_flatMap.1 hx
  exact esc_lt v c x h
theorem plainN_upto (a b : List UInt8) (h : ∀ x ∈ a, x ≠ 60) : plainN (a ++ b) = a.length + plainN b := by
  have := plainN_skip a.length (a ++ b) (by simp) (fun k hk => by
    cases hs : startsB ((a ++ b).drop k)
    · rfl
    · obtain ⟨t, ht⟩ := starts_head _ hs
      rw [List.drop_append_of_le_length (by omega)] at ht
      rw [List.drop_eq_getElem_cons hk] at ht
      exact absurd (List.cons.inj ht).1 (h _ (List.getElem_mem hk)))
  rw [this]
  congr 2
  simp
theorem escape_ne (v : Bool) (l : List UInt8) (h : l ≠ []) : M2.escape v l ≠ [] := by
  intro e
  have := congrArg M2.decode e
  rw [M2.decode_escape, M2.decode_nil] at this
  exact h this
end Go.Proofs.YteefodibpjgicaaGreat.M5

namespace Go.Proofs.YteefodibpjgicaaGreat.M5
theorem quoted_own (q : UInt8) (v t : List UInt8) (h : ∀ x ∈ v, x ≠ q) : quoted q (v ++ q :: t) = (v, t) := by
  unfold quoted
  induction v with
  | nil => simp
  | cons c r ih =>
    have hc : (c != q) = true := bne_iff_ne.2 (h c (by simp))
    have := ih (fun x hx => h x (by simp [hx]))
    simp only [Prod.mk.injEq] at this
    rw [List.cons_append, List.takeWhile_cons, List.dropWhile_cons, hc, if_pos rfl, if_pos rfl, this.1, this.2]
end Go.Proofs.YteefodibpjgicaaGreat.M5

namespace Go.Proofs.YteefodibpjgicaaGreat.M5
theorem tw_all (q : UInt8 → Bool) (a : List UInt8) (x : UInt8) (b : List UInt8) (h : ∀ c ∈ a, q c = true) (hx : q x = false) : (a ++ x :: b).takeWhile q = a ∧ (a ++ x :: b).dropWhile q = x :: b := by
  induction a with
  | nil => rw [List.nil_append, List.takeWhile_cons, List.dropWhile_cons, hx]; exact ⟨rfl, rfl⟩
  | cons c r ih =>
    obtain ⟨i1, i2⟩ := ih (fun y hy => h y (by simp [hy]))
    rw [List.cons_append, List.takeWhile_cons, List.dropWhile_cons, h c (by simp), if_pos rfl, if_pos rfl, i1, i2]
    exact ⟨rfl, rfl⟩
theorem small_own {c : UInt8} (h : M3.capB c = false) : M1.small c = c := by
  unfold M3.capB at h
  unfold M1.small
  rw [if_neg]
  simpa using h
theorem fold_own (l : List UInt8) (h : ∀ c ∈ l, M3.capB c = false) : M1.fold l = l := by
  unfold M1.fold
  induction l with
  | nil => rfl
  | cons c r ih => rw [List.map_cons, small_own (h c (by simp)), ih (fun y hy => h y (by simp [hy]))]
theorem att_facts {l : List UInt8} (h : M3.attributedB l = true) : (∃ c r, l = c :: r) ∧ (∀ c ∈ l, M3.capB c = false) ∧ ∀ c ∈ l, keyB c = true ∧ c ≠ 62 := by
  unfold M3.attributedB at h
  rw [Bool.and_eq_true, Bool.and_eq_true, Bool.and_eq_true] at h
  obtain ⟨h1, ⟨_, h2⟩, h3⟩ := h
  refine ⟨?_, fun c hc => ?_, fun c hc => ?_⟩
  · cases l with
    | nil => cases h1
    | cons c r => exact ⟨c, r, rfl⟩
  · have := List.any_eq_false.1 (by simpa using h2) c hc
    simpa using this
  · have := List.any_eq_false.1 (show l.any M3.badB = false by simpa using h3) c hc
    have hb : M3.badB c = false := by simpa using this
    unfold M3.badB at hb
    simp only [Bool.or_eq_false_iff] at hb
    obtain ⟨⟨⟨⟨⟨⟨b9, b10⟩, b12⟩, b32⟩, b47⟩, b62⟩, b61⟩ := hb
    have key : ∀ d : UInt8, (c.toNat == d.toNat) = false → (c == d) = false := fun d hd => by
      rw [beq_eq_false_iff_ne] at hd ⊢
      intro e
      exact hd (by rw [e])
    have k62 := key 62 b62
    refine ⟨?_, beq_eq_false_iff_ne.1 k62⟩
    unfold keyB stopB blankB
    rw [key 9 b9, key 10 b10, key 12 b12, key 32 b32, key 47 b47, k62, key 61 b61]
    rfl
theorem name_facts {l : List UInt8} (h : M3.namedB l = true) : (∃ c r, l = c :: r ∧ letterB c = true) ∧ (∀ c ∈ l, M3.capB c = false) ∧ ∀ c ∈ l, nameB c = true := by
  cases l with
  | nil => cases h
  | cons c r =>
    have h' : (M3.smallB c && r.all M3.nameB) = true := h
    rw [Bool.and_eq_true] at h'
    obtain ⟨h1, h2⟩ := h'
    have hs : ∀ d : UInt8, M3.smallB d = true → letterB d = true ∧ M3.capB d = false ∧ nameB d = true := fun d hd => by
      unfold M3.smallB at hd
      have hd := of_decide_eq_true hd
      have hl : letterB d = true := by unfold letterB; simp; omega
      refine ⟨hl, ?_, ?_⟩
      · unfold M3.capB; simp; omega
      · unfold nameB; rw [hl]; rfl
    have hn : ∀ d : UInt8, M3.nameB d = true → M3.capB d = false ∧ nameB d = true := fun d hd => by
      unfold M3.nameB at hd
      rw [Bool.or_eq_true] at hd
      rcases hd with hd | hd
      · exact ⟨(hs d hd).2.1, (hs d hd).2.2⟩
      · have hd := of_decide_eq_true hd
        refine ⟨by unfold M3.capB; simp; omega, ?_⟩
        unfold nameB
        rcases hd with h45 | h48
        · have : d = 45 := UInt8.toNat_inj.1 h45
          subst this
          decide
        · rw [show decide (48 ≤ d.toNat ∧ d.toNat ≤ 57) = true from decide_eq_true h48]
          simp
    refine ⟨⟨c, r, rfl, (hs c h1).1⟩, fun d hd => ?_, fun d hd => ?_⟩
    · rcases List.mem_cons.1 hd with rfl | hd
      · exact (hs _ h1).2.1
      · exact (hn _ (List.all_eq_true.1 h2 _ hd)).1
    · rcases List.mem_cons.1 hd with rfl | hd
      · exact (hs _ h1).2.2
      · exact (hn _ (List.all_eq_true.1 h2 _ hd)).2
theorem key_over {c : UInt8} (h : keyB c = true) : overB c = false := by
  unfold keyB stopB at h
  unfold overB
  revert h
  cases blankB c <;> cases (c == 47) <;> cases (c == 62) <;> cases (c == 61) <;> simp
theorem attB_step (a : Att) (rest : List UInt8) (acc : List Att) (h : M3.attributedB a.name.data.toList = true) : attsR (M4.attB a ++ rest) acc = attsR rest (addT acc a) := by
  obtain ⟨⟨c, r, hc⟩, hcap, hk⟩ := att_facts h
  obtain ⟨X, hX⟩ : ∃ X, X = a.name.data.toList ++ 61 :: (34 :: (M2.escape true a.value.data.toList ++ 34 :: rest)) := ⟨_, rfl⟩
  have e1 : M4.attB a ++ rest = 32 :: X := by rw [hX]; unfold M4.attB; simp
  have hXc : X = c :: (r ++ 61 :: (34 :: (M2.escape true a.value.data.toList ++ 34 :: rest))) := by rw [hX, hc]; rfl
  have hkc := hk c (by rw [hc]; simp)
  have e2 : attsR (32 :: X) acc = attsR X acc := by
    rw [atts_over (32 :: X), atts_over X]
    rfl
  rw [e1, e2, hXc, atts_one c _ acc (key_over hkc.1) hkc.2, ← hXc]
  obtain ⟨t1, t2⟩ := tw_all keyB a.name.data.toList 61 (34 :: (M2.escape true a.value.data.toList ++ 34 :: rest)) (fun d hd => (hk d hd).1) (by decide)
  have hq := quoted_own 34 (M2.escape true a.value.data.toList) rest (fun x hx => (M2.escape_bare _ x hx).2.2)
  have hat : attC X = (a, rest) := by
    rw [attC_61 X (34 :: (M2.escape true a.value.data.toList ++ 34 :: rest)) (by rw [hX, t2]; rfl)]
    have hv : valC ((34 :: (M2.escape true a.value.data.toList ++ 34 :: rest)).dropWhile blankB) = (M2.escape true a.value.data.toList, rest) := by
      show valC (34 :: (M2.escape true a.value.data.toList ++ 34 :: rest)) = _
      rw [valC, if_pos (Or.inl rfl), hq]
    rw [hv, hX, t1, fold_own _ hcap, M2.decode_escape, bs_of, bs_of]
  rw [hat]
theorem addT_new (acc : List Att) (a : Att) (h : ∀ b ∈ acc, b.name ≠ a.name) : addT acc a = acc ++ [a] := by
  unfold addT
  rw [if_neg]
  intro hany
  obtain ⟨b, hb, he⟩ := List.any_eq_true.1 hany
  exact h b hb (M3.eqB_iff.1 he)
theorem atts_written (rest : List UInt8) : ∀ (l acc : List Att), (∀ a ∈ l, M3.attributedB a.name.data.toList = true) → l.Pairwise (fun a b => a.name ≠ b.name) → (∀ b ∈ acc, ∀ a ∈ l, b.name ≠ a.name) → attsR (M4.attsB l ++ 62 :: rest) acc = some (acc ++ l, rest) := by
  intro l
  induction l with
  | nil =>
    intro acc _ _ _
    show attsR (62 :: rest) acc = _
    rw [attsR_cons, if_pos rfl, List.append_nil]
  | cons a l ih =>
    intro acc h1 h2 h3
    obtain ⟨p1, p2⟩ := List.pairwise_cons.1 h2
    have e : M4.attsB (a :: l) ++ 62 :: rest = M4.attB a ++ (M4.attsB l ++ 62 :: rest) := by unfold M4.attsB; rw [List.flatMap_cons, List.append_assoc]
    rw [e, attB_step a _ acc (h1 a (by simp)), addT_new acc a (fun b hb => h3 b hb a (by simp)), ih (acc ++ [a]) (fun b hb => h1 b (by simp [hb])) p2 (fun b hb c hc => by
      rcases List.mem_append.1 hb with hb | hb
      · exact h3 b hb c (by simp [hc])
      · rw [List.mem_singleton] at hb
        subst hb
        exact p1 c hc), List.append_assoc]
    rfl
def AttsOk (l : List Att) : Prop := (∀ a ∈ l, M3.attributedB a.name.data.toList = true) ∧ l.Pairwise (fun a b => a.name ≠ b.name)
theorem head_written (n : ByteArray) (l : List Att) (rest : List UInt8) (hn : M3.namedB n.data.toList = true) (hl : AttsOk l) : startsB (M4.headB n l ++ rest) = true ∧ tagR (M4.headB n l ++ rest) = (⟨1, n, l, ⟨#[]⟩⟩, rest) := by
  obtain ⟨⟨c, r, hc, hlc⟩, hcap, hnb⟩ := name_facts hn
  have e : M4.headB n l ++ rest = 60 :: (n.data.toList ++ (M4.attsB l ++ 62 :: rest)) := by unfold M4.headB; simp
  have hx : ∃ x b, M4.attsB l ++ 62 :: rest = x :: b ∧ nameB x = false := by
    cases l with
    | nil => exact ⟨62, rest, rfl, by decide⟩
    | cons a l => exact ⟨32, _, rfl, by decide⟩
  obtain ⟨x, b, hxb, hx⟩ := hx
  obtain ⟨t1, t2⟩ := tw_all nameB n.data.toList x b hnb hx
  rw [← hxb] at t1 t2
  have hs : startsB (60 :: (n.data.toList ++ (M4.attsB l ++ 62 :: rest))) = true := by
    rw [hc]
    show (60 == 60 && (letterB c || c == 33 || c == 63 || c == 47)) = true
    rw [hlc]
    rfl
  rw [e]
  refine ⟨hs, ?_⟩
  have hb : beginR (60 :: (n.data.toList ++ (M4.attsB l ++ 62 :: rest))) = (⟨1, n, l, ⟨#[]⟩⟩, rest) := by
    rw [begin_eq]
    show (match attsR ((n.data.toList ++ (M4.attsB l ++ 62 :: rest)).dropWhile nameB) [] with | some (as_, r) => ((⟨1, bs (M1.fold ((n.data.toList ++ (M4.attsB l ++ 62 :: rest)).takeWhile nameB)), as_, ⟨#[]⟩⟩ : Tok), r) | none => (zero, [])) = _
    rw [t1, t2, atts_written rest l [] hl.1 hl.2 (fun b hb => nomatch hb), fold_own _ hcap, bs_of]
    rfl
  rw [hc] at hb hs ⊢
  unfold tagR
  rw [if_pos hs]
  show (if letterB c then _ else _ : Tok × List UInt8) = _
  rw [if_pos hlc]
  exact hb
theorem end_written (n : ByteArray) (rest : List UInt8) (hn : M3.namedB n.data.toList = true) : startsB ([60, 47] ++ (n.data.toList ++ [62]) ++ rest) = true ∧ tagR ([60, 47] ++ (n.data.toList ++ [62]) ++ rest) = (⟨2, n, [], ⟨#[]⟩⟩, rest) := by
  obtain ⟨⟨c, r, hc, hlc⟩, hcap, hnb⟩ := name_facts hn
  have e : [60, 47] ++ (n.data.toList ++ [62]) ++ rest = 60 :: 47 :: (n.data.toList ++ 62 :: rest) := by simp
  rw [e]
  have hs : startsB (60 :: 47 :: (n.data.toList ++ 62 :: rest)) = true := rfl
  refine ⟨hs, ?_⟩
  obtain ⟨t1, _⟩ := tw_all nameB n.data.toList 62 rest hnb (by decide)
  obtain ⟨u1, _⟩ := tw_all (· != 62) n.data.toList 62 rest (fun d hd => by
    rw [bne_iff_ne]
    intro e
    have := hnb d hd
    rw [e] at this
    exact absurd this (by decide)) rfl
  have hf : findL [62] (n.data.toList ++ 62 :: rest) = n.data.toList.length := by rw [findL_span]; unfold spanN; rw [u1]
  unfold tagR
  rw [if_pos hs]
  show (if letterB 47 then _ else _ : Tok × List UInt8) = _
  rw [show letterB 47 = false from by decide, if_neg Bool.false_ne_true]
  have p4 : [60, 33, 45, 45].isPrefixOf (60 :: 47 :: (n.data.toList ++ 62 :: rest)) = false := rfl
  have p3 : [60, 47, 62].isPrefixOf (60 :: 47 :: (n.data.toList ++ 62 :: rest)) = false := by
    rw [hc]
    show (60 == 60 && (47 == 47 && (62 == c && _))) = false
    have : ((62 : UInt8) == c) = false := by
      rw [beq_eq_false_iff_ne]
      intro e
      subst e
      exact absurd hlc (by decide)
    rw [this]
    rfl
  rw [p4, p3, if_neg Bool.false_ne_true, if_neg Bool.false_ne_true, if_pos ⟨rfl, by rw [hc]; exact congrArg some hlc⟩, hf, if_pos (by rw [List.length_append]; simp), t1, fold_own _ hcap, bs_of]
  congr 1
  rw [List.drop_append, List.drop_of_length_le (by omega), List.nil_append, Nat.add_sub_cancel_left]
  rfl
end Go.Proofs.YteefodibpjgicaaGreat.M5

namespace Go.Proofs.YteefodibpjgicaaGreat.M5
theorem names_atts (l : List Att) : ∀ seen : List ByteArray, M3.namesE seen l = 0 → (∀ a ∈ l, M3.attributedB a.name.data.toList = true) ∧ l.Pairwise (fun a b => a.name ≠ b.name) ∧ ∀ a ∈ l, ∀ s ∈ seen, s ≠ a.name := by
  induction l with
  | nil => intro seen _; exact ⟨fun a h => (nomatch h), List.Pairwise.nil, fun a h => (nomatch h)⟩
  | cons a r ih =>
    intro seen h
    have h : (if M3.attributedB a.name.data.toList then (if seen.any (M3.eqB a.name) then 5 else M3.namesE (seen ++ [a.name]) r) else 4) = (0 : Int) := h
    split at h
    · rename_i ha
      split at h
      · exact absurd h (by decide)
      · rename_i hs
        obtain ⟨i1, i2, i3⟩ := ih _ h
        have hns : ∀ s ∈ seen, s ≠ a.name := fun s hm e => hs (List.any_eq_true.2 ⟨s, hm, M3.eqB_iff.2 e.symm⟩)
        refine ⟨fun b hb => ?_, List.pairwise_cons.2 ⟨fun b hb => i3 b hb a.name (by simp), i2⟩, fun b hb s hm => ?_⟩
        · rcases List.mem_cons.1 hb with rfl | hb
          · exact ha
          · exact i1 b hb
        · rcases List.mem_cons.1 hb with rfl | hb
          · exact hns s hm
          · exact i3 b hb s (by simp [hm])
    · exact absurd h (by decide)
def SmallN (x : Nd) : Prop := x.name.size ≤ 30 ∧ ∀ a ∈ x.attrs, a.name.size ≤ 30 ∧ a.value.size ≤ 120
end Go.Proofs.YteefodibpjgicaaGreat.M5

namespace Go.Proofs.YteefodibpjgicaaGreat
namespace M5
theorem find_skip (w l : List UInt8) (k : Nat) (hk : k ≤ l.length) (h : ∀ i, i < k → w.isPrefixOf (l.drop i) = false) : findL w l = k + findL w (l.drop k) := by
  induction k generalizing l with
  | zero => simp
  | succ k ih =>
    cases l with
    | nil => simp at hk
    | cons c r =>
      have h0 := h 0 (by omega)
      rw [List.drop_zero] at h0
      rw [findL, h0, if_neg Bool.false_ne_true, ih r (by simp at hk; omega) (fun i hi => by have := h (i + 1) (by omega); simpa using this), List.drop_succ_cons]
      omega
theorem find_none {w l : List UInt8} (h : findL w l = l.length) : ∀ i, i < l.length → w.isPrefixOf (l.drop i) = false := by
  induction l with
  | nil => intro i hi; simp at hi
  | cons c r ih =>
    rw [findL] at h
    split at h
    · simp at h
    · rename_i h0
      intro i hi
      cases i with
      | zero => exact Bool.eq_false_iff.2 h0
      | succ i => exact ih (by simp at h; exact h) i (by simpa using hi)
theorem find_here (w z : List UInt8) (hw : w ≠ []) : findL w (w ++ z) = 0 := by
  cases w with
  | nil => exact absurd rfl hw
  | cons c r =>
    rw [List.cons_append, findL, if_pos]
    have : (c :: r).isPrefixOf ((c :: r) ++ z) = true := by simp
    exact this
theorem find_rem (t z : List UInt8) (h : findL [45, 45, 62] t = t.length) : findL [45, 45, 62] (t ++ ([45, 45, 62] ++ z)) = t.length := by
  rw [find_skip _ _ t.length (by simp) (fun i hi => ?_), List.drop_left, find_here _ _ (by simp)]
  · omega
  · have h1 := find_none h i hi
    rw [List.drop_append_of_le_length (by omega)]
    have hl : 0 < (t.drop i).length := by rw [List.length_drop]; omega
    generalize t.drop i = a at *
    match a with
    | [] => simp at hl
    | [c] =>
      simp only [List.cons_append, List.nil_append, List.isPrefixOf]
      simp
    | [c, d] =>
      simp only [List.cons_append, List.nil_append, List.isPrefixOf]
      simp
    | c :: d :: e :: r =>
      simp only [List.cons_append, List.isPrefixOf] at h1 ⊢
      exact h1
theorem upto_rem (t z : List UInt8) (h : findL [45, 45, 62] t = t.length) : uptoR [45, 45, 62] (t ++ ([45, 45, 62] ++ z)) = (t, z) := by
  unfold uptoR
  rw [find_rem t z h, if_pos (by simp)]
  congr 1
  · simp
  · rw [List.drop_append, List.drop_of_length_le (by omega), List.nil_append, Nat.add_sub_cancel_left]
    rfl
theorem comm_written (t : ByteArray) (z : List UInt8) (h : findL [45, 45, 62] t.data.toList = t.data.toList.length) : startsB (M4.commB t ++ z) = true ∧ tagR (M4.commB t ++ z) = (⟨4, ⟨#[]⟩, [], t⟩, z) := by
  have e : M4.commB t ++ z = 60 :: 33 :: 45 :: 45 :: (t.data.toList ++ ([45, 45, 62] ++ z)) := by
    unfold M4.commB
    simp
  have hs : startsB (60 :: 33 :: 45 :: 45 :: (t.data.toList ++ ([45, 45, 62] ++ z))) = true := rfl
  rw [e]
  refine ⟨hs, ?_⟩
  rw [tagR, if_pos hs]
  show (if letterB 33 then _ else if [60, 33, 45, 45].isPrefixOf (60 :: 33 :: 45 :: 45 :: (t.data.toList ++ ([45, 45, 62] ++ z))) then _ else _ : Tok × List UInt8) = _
  rw [if_neg (by decide), if_pos (by simp)]
  show ((⟨4, ⟨#[]⟩, [], bs (uptoR [45, 45, 62] (t.data.toList ++ ([45, 45, 62] ++ z))).1⟩ : Tok), (uptoR [45, 45, 62] (t.data.toList ++ ([45, 45, 62] ++ z))).2) = _
  rw [upto_rem _ _ h, bs_of]
def stopH : List UInt8 → Bool
  | d :: _ => blankB d || d == 47 || d == 62
  | [] => false
theorem ends_step (w : List UInt8) (c : UInt8) (r : List UInt8) : endsL w (c :: r) = if (M1.fold ((c :: r).take w.length) == w && stopH ((c :: r).drop w.length)) = true then some 0 else (endsL w r).map (· + 1) := by
  rw [endsL]
  cases (c :: r).drop w.length <;> rfl
theorem ends_len (w : List UInt8) : ∀ (l : List UInt8) (k : Nat), endsL w l = some k → k + w.length < l.length := by
  intro l
  induction l with
  | nil => intro k h; cases h
  | cons c r ih =>
    intro k h
    rw [ends_step] at h
    by_cases hh : (M1.fold ((c :: r).take w.length) == w && stopH ((c :: r).drop w.length)) = true
    · rw [if_pos hh] at h
      have h : 0 = k := by simpa using h
      subst h
      simp only [Bool.and_eq_true] at hh
      have h2 := hh.2
      cases hd : (c :: r).drop w.length with
      | nil => rw [hd] at h2; cases h2
      | cons d t =>
        have := congrArg List.length hd
        rw [List.length_drop] at this
        simp only [List.length_cons] at this ⊢
        omega
    · rw [if_neg hh] at h
      cases hr : endsL w r with
      | none => rw [hr] at h; cases h
      | some j =>
        rw [hr] at h
        have := ih j hr
        have : j + 1 = k := by simpa using h
        simp only [List.length_cons]
        omega
theorem ends_ext (w : List UInt8) : ∀ (l z : List UInt8) (k : Nat), endsL w l = some k → endsL w (l ++ z) = some k := by
  intro l
  induction l with
  | nil => intro z k h; cases h
  | cons c r ih =>
    intro z k h
    have hl := ends_len w _ _ h
    have ht : ((c :: r) ++ z).take w.length = (c :: r).take w.length := List.take_append_of_le_length (by omega)
    have hd : ((c :: r) ++ z).drop w.length = (c :: r).drop w.length ++ z := List.drop_append_of_le_length (by omega)
    rw [List.cons_append] at ht hd ⊢
    rw [ends_step] at h ⊢
    rw [ht, hd]
    have hm : stopH ((c :: r).drop w.length ++ z) = stopH ((c :: r).drop w.length) := by
      cases hq : (c :: r).drop w.length with
      | nil =>
        have := congrArg List.length hq
        rw [List.length_drop] at this
        simp only [List.length_nil] at this
        omega
      | cons d t => rfl
    rw [hm]
    by_cases hc : (M1.fold ((c :: r).take w.length) == w && stopH ((c :: r).drop w.length)) = true
    · rw [if_pos hc] at h ⊢; exact h
    · rw [if_neg hc] at h ⊢
      cases hr : endsL w r with
      | none => rw [hr] at h; cases h
      | some j =>
        rw [hr] at h
        rw [ih z j hr]
        exact h
theorem ends_here (w z : List UInt8) (hw : M1.fold w = w) (h0 : w ≠ []) : endsL w (w ++ 62 :: z) = some 0 := by
  cases w with
  | nil => exact absurd rfl h0
  | cons c r =>
    rw [List.cons_append, ends_step, if_pos]
    have e1 : (c :: (r ++ 62 :: z)).take (c :: r).length = c :: r := by
      rw [← List.cons_append, List.take_left]
    have e2 : (c :: (r ++ 62 :: z)).drop (c :: r).length = 62 :: z := by
      rw [← List.cons_append, List.drop_left]
    rw [e1, e2, hw]
    simp [stopH]
theorem one_starts {x : Nd} {p : Bool} (z : List UInt8) (h : M3.oneE x p = 0) (hs : M6.remB x = false) (ht : x.kind ≠ 2) : startsB (M4.oneB false x ++ z) = true := by
  rcases M7.one_kinds h with ⟨hk, -, hn, ha, -⟩ | ⟨hk, -⟩ | ⟨hk, -⟩
  · rw [M4.oneB_1 hk, List.append_assoc]
    obtain ⟨a1, a2, -⟩ := names_atts _ _ ha
    exact (head_written x.name x.attrs _ hn ⟨a1, a2⟩).1
  · exact absurd hk ht
  · rw [M4.oneB_3 hk]
    have : findL [45, 45, 62] x.text.data.toList = x.text.data.toList.length := by
      unfold M6.remB M6.hasB at hs
      rw [hk] at hs
      have := findL_le [45, 45, 62] x.text.data.toList
      have : ¬ findL [45, 45, 62] x.text.data.toList < x.text.data.toList.length := by simpa using hs
      omega
    exact (comm_written x.text z this).1
def Tagged (z : List UInt8) : Prop := z = [] ∨ startsB z = true
theorem rest_tagged (r : List Nd) (z : List UInt8) (hz : Tagged z) (hmay : M3.mayE true r = 0) (hall : M6.allB r = true) : Tagged (M4.textB false r ++ z) := by
  cases r with
  | nil => rw [M4.textB_nil]; exact hz
  | cons y r =>
    obtain ⟨m1, -, -⟩ := M7.may_cons hmay
    rw [M6.allB_cons, Bool.and_eq_true] at hall
    have hr : M6.remB y = false := by
      have := hall.1
      unfold M6.oneS at this
      simp only [Bool.and_eq_true, Bool.not_eq_true'] at this
      exact this.1
    rw [M4.textB_cons, List.append_assoc]
    refine .inr (one_starts _ m1 hr ?_)
    intro hk
    rcases M7.one_kinds m1 with h | h | h
    · omega
    · exact absurd h.2.2.2.2 (by simp)
    · omega
theorem text_written (t : List UInt8) (z : List UInt8) (hz : Tagged z) (ht : t ≠ []) : toksR [] (M2.escape false t ++ z) = ⟨3, ⟨#[]⟩, [], bs t⟩ :: toksR [] z := by
  have hne := escape_ne false t ht
  have hp := plainN_upto (M2.escape false t) z (escape_lt false t)
  have hpz : plainN z = 0 := by
    rcases hz with rfl | h
    · rfl
    · exact plainN_yes z h
  rw [hpz, Nat.add_zero] at hp
  have hs : startsB (M2.escape false t ++ z) = false := by
    cases hs : startsB (M2.escape false t ++ z)
    · rfl
    · obtain ⟨u, hu⟩ := starts_head _ hs
      cases he : M2.escape false t with
      | nil => exact absurd he hne
      | cons c r =>
        rw [he, List.cons_append] at hu
        injection hu with h1 h2
        exact absurd h1 (escape_lt false t c (by rw [he]; simp))
  rw [toks_step _ (by intro e; exact hne (List.append_eq_nil_iff.1 e).1) hs, hp, List.take_left, List.drop_left, M2.decode_escape]
theorem toks_nodes (l : List Nd) : ∀ (p : Bool) (z : List UInt8), Tagged z → M6.allB l = true → M3.mayE p l = 0 → toksR [] (M4.textB false l ++ z) = M7.toksN l ++ toksR [] z := by
  induction l using Nd.ind with
  | h0 => intro p z _ _ _; rw [M4.textB_nil, M7.toksN_nil]; rfl
  | h1 k n a t ks r ih1 ih2 =>
    intro p z hz hall hmay
    obtain ⟨m1, m2, m3⟩ := M7.may_cons hmay
    rw [M6.allB_cons, Bool.and_eq_true] at hall
    obtain ⟨a1, a2⟩ := hall
    unfold M6.oneS at a1
    simp only [Bool.and_eq_true, Bool.not_eq_true'] at a1
    obtain ⟨ar, a3, a4⟩ := a1
    rw [M4.textB_cons, M7.toksN_cons, List.append_assoc, List.append_assoc]
    have hrest : toksR [] (M4.textB false r ++ z) = M7.toksN r ++ toksR [] z := ih2 _ z hz a2 m3
    rcases M7.one_kinds m1 with ⟨hk, ht, hn, ha, -⟩ | ⟨hk, hx, -, hne, -⟩ | ⟨hk, hx, -⟩
    · have hk : k = 1 := hk
      have ht : t = ⟨#[]⟩ := ht
      subst hk ht
      obtain ⟨b1, b2, -⟩ := names_atts _ _ ha
      have hA : AttsOk a := ⟨b1, b2⟩
      have hn : M3.namedB n.data.toList = true := hn
      rw [M4.oneB_1 rfl]
      show toksR [] ((M4.headB n a ++ (M4.innerB (M3.voidB n.data.toList) (M3.rawB n.data.toList) ks ++ M4.endB n)) ++ (M4.textB false r ++ z)) = M7.tokOne (.mk 1 n a ⟨#[]⟩ ks) ++ (M7.toksN r ++ toksR [] z)
      rw [← hrest, List.append_assoc]
      generalize M4.textB false r ++ z = y
      obtain ⟨s1, g1⟩ := head_written n a ((M4.innerB (M3.voidB n.data.toList) (M3.rawB n.data.toList) ks ++ M4.endB n) ++ y) hn hA
      have hto : M7.tokOne (.mk 1 n a ⟨#[]⟩ ks) = ⟨1, n, a, ⟨#[]⟩⟩ :: (if M3.voidB n.data.toList then [] else M7.toksN ks ++ [⟨2, n, [], ⟨#[]⟩⟩]) := by
        unfold M7.tokOne; rw [if_pos (show (Nd.mk 1 n a ⟨#[]⟩ ks).kind = 1 from rfl)]; rfl
      rw [hto]
      have hkb : keepT (⟨1, n, a, ⟨#[]⟩⟩ : Tok) = [⟨1, n, a, ⟨#[]⟩⟩] := rfl
      cases hv : M3.voidB n.data.toList
      · have hend : M4.endB n = [60, 47] ++ (n.data.toList ++ [62]) := by unfold M4.endB; rw [hv]; rfl
        rw [hv, hend, List.append_assoc] at s1 g1
        rw [hend, if_neg Bool.false_ne_true, List.append_assoc (M4.innerB _ _ _)]
        obtain ⟨s2, g2⟩ := end_written n y hn
        have hendt : toksR [] ([60, 47] ++ (n.data.toList ++ [62]) ++ y) = ⟨2, n, [], ⟨#[]⟩⟩ :: toksR [] y := by
          rw [round_tag _ s2 (by rw [g2]; intro h; exact absurd h.1 (by show ¬ (2 : Int) = 1; decide)), g2]
          rfl
        cases hr : M3.rawB n.data.toList
        · rw [hr] at s1 g1
          rw [round_tag _ s1 (by rw [g1]; intro h; have := h.2; rw [show (⟨1, n, a, ⟨#[]⟩⟩ : Tok).name = n from rfl, hr] at this; cases this), g1]
          show keepT _ ++ toksR [] (M4.innerB false false ks ++ _) = _
          rw [hkb, M4.innerB_no, ih1 false _ (.inr s2) a4 m2, hendt]
          simp
        · rw [hr] at s1 g1
          rw [round_raw _ s1 (by rw [g1]; exact ⟨rfl, hr⟩), g1]
          show keepT _ ++ (keepT (contC (endN n.data.toList (M4.innerB false true ks ++ _)) (M4.innerB false true ks ++ _)) ++ toksR [] ((M4.innerB false true ks ++ _).drop (endN n.data.toList (M4.innerB false true ks ++ _)))) = _
          rw [hkb, M4.innerB_no]
          have hfit : ∀ x ∈ ks, x.kind = 2 ∧ M6.endsHere n.data.toList x.text.data.toList = true := fun x hx => by
            have h := List.all_eq_true.1 a3 x hx
            unfold M6.fitsB at h
            rw [show (Nd.mk 1 n a ⟨#[]⟩ ks).name = n from rfl, hv, hr, if_neg Bool.false_ne_true, if_pos rfl, Bool.and_eq_true] at h
            exact ⟨by simpa [M3.isText] using h.1, h.2⟩
          obtain ⟨nf1, nf2, nf3⟩ := name_facts hn
          have hfold : M1.fold ([60, 47] ++ n.data.toList) = [60, 47] ++ n.data.toList := by
            unfold M1.fold
            rw [List.map_append]
            have := fold_own _ nf2
            unfold M1.fold at this
            rw [this]
            rfl
          cases ks with
          | nil =>
            have he : endN n.data.toList (M4.textB true [] ++ ([60, 47] ++ (n.data.toList ++ [62]) ++ y)) = 0 := by
              rw [M4.textB_nil, List.nil_append]
              unfold endN
              have := ends_here ([60, 47] ++ n.data.toList) y hfold (by simp)
              rw [show [60, 47] ++ (n.data.toList ++ [62]) ++ y = [60, 47] ++ n.data.toList ++ 62 :: y by simp, this]
              rfl
            rw [he, M4.textB_nil, List.drop_zero, List.nil_append, hendt, M7.toksN_nil]
            rfl
          | cons x r' =>
            obtain ⟨x1, x2⟩ := hfit x (by simp)
            obtain ⟨c1, -, c3⟩ := M7.may_cons m2
            have hr' : r' = [] := by
              cases r' with
              | nil => rfl
              | cons y' r'' =>
                obtain ⟨y1, -⟩ := hfit y' (by simp)
                rw [x1] at c3
                obtain ⟨d1, -, -⟩ := M7.may_cons c3
                rcases M7.one_kinds d1 with h | h | h
                · omega
                · exact absurd h.2.2.2.2 (by simp)
                · omega
            subst hr'
            have hxn : x.text.data.toList ≠ [] := by
              rcases M7.one_kinds c1 with h | h | h
              · omega
              · intro e
                have := h.2.2.2.1
                rw [M3.nilB_data', e] at this
                cases this
              · omega
            have htx : M4.textB true [x] = x.text.data.toList := by
              rw [M4.textB_cons, M4.textB_nil, List.append_nil, M4.oneB_2 x1]
              rfl
            have he : endN n.data.toList (x.text.data.toList ++ ([60, 47] ++ (n.data.toList ++ [62]) ++ y)) = x.text.data.toList.length := by
              unfold M6.endsHere at x2
              have x2 : endsL ([60, 47] ++ n.data.toList) (x.text.data.toList ++ ([60, 47] ++ n.data.toList ++ [62])) = some x.text.data.toList.length := by simpa using x2
              have := ends_ext _ _ y _ x2
              unfold endN
              rw [show x.text.data.toList ++ ([60, 47] ++ (n.data.toList ++ [62]) ++ y) = x.text.data.toList ++ ([60, 47] ++ n.data.toList ++ [62]) ++ y by simp, this]
              rfl
            rw [htx, he, List.drop_left, hendt]
            have hlen : x.text.data.toList.length ≠ 0 := fun e => hxn (List.eq_nil_of_length_eq_zero e)
            have hto1 : M7.toksN [x] = [⟨3, ⟨#[]⟩, [], x.text⟩] := by
              rw [M7.toksN_cons, M7.toksN_nil, List.append_nil]
              unfold M7.tokOne
              rw [if_neg (by omega), if_pos x1]
            unfold contC
            rw [if_neg hlen, List.take_left, bs_of, hto1]
            rfl
      · have hend : M4.endB n = [] := by unfold M4.endB; rw [hv]; rfl
        have hraw : M3.rawB n.data.toList = false := by
          cases hr : M3.rawB n.data.toList
          · rfl
          · unfold M3.voidB at hv
            unfold M3.rawB at hr
            simp only [Bool.or_eq_true, beq_iff_eq] at hr hv
            rcases hr with hr | hr <;> rw [hr] at hv <;> simp at hv
        rw [hv, hend] at s1 g1
        rw [hend]
        rw [round_tag _ s1 (by rw [g1]; intro h; have := h.2; rw [show (⟨1, n, a, ⟨#[]⟩⟩ : Tok).name = n from rfl, hraw] at this; cases this), g1]
        show keepT _ ++ toksR [] (M4.innerB true _ ks ++ [] ++ y) = _
        rw [hkb, M4.innerB_yes]
        rfl
    · have hk : k = 2 := hk
      have hx : Nd.mk k n a t ks = .mk 2 ⟨#[]⟩ [] t [] := hx
      rw [M4.oneB_2 (show (Nd.mk k n a t ks).kind = 2 from hk)]
      have hne : M3.nilB t = false := hne
      have hnt : t.data.toList ≠ [] := fun e => by rw [M3.nilB_data', e] at hne; cases hne
      have htag : Tagged (M4.textB false r ++ z) := rest_tagged r z hz (by have := m3; rw [show (Nd.mk k n a t ks).kind = 2 from hk] at this; exact this) a2
      show toksR [] (M2.escape false t.data.toList ++ (M4.textB false r ++ z)) = _
      rw [text_written _ _ htag hnt, hrest, bs_of]
      unfold M7.tokOne
      rw [if_neg (show ¬ (Nd.mk k n a t ks).kind = 1 by show ¬ k = 1; omega), if_pos (show (Nd.mk k n a t ks).kind = 2 from hk)]
      rfl
    · have hk : k = 3 := hk
      rw [M4.oneB_3 (show (Nd.mk k n a t ks).kind = 3 from hk)]
      have hf : findL [45, 45, 62] t.data.toList = t.data.toList.length := by
        unfold M6.remB M6.hasB at ar
        rw [show (Nd.mk k n a t ks).kind = 3 from hk] at ar
        change (decide ((3 : Int) = 3) && decide (findL [45, 45, 62] t.data.toList < t.data.toList.length)) = false at ar
        have := findL_le [45, 45, 62] t.data.toList
        have : ¬ findL [45, 45, 62] t.data.toList < t.data.toList.length := by
          intro h
          rw [decide_eq_true h] at ar
          cases ar
        omega
      obtain ⟨s1, g1⟩ := comm_written t (M4.textB false r ++ z) hf
      show toksR [] (M4.commB t ++ (M4.textB false r ++ z)) = _
      rw [round_tag _ s1 (by rw [g1]; intro h; exact absurd h.1 (by show ¬ (4 : Int) = 1; decide)), g1]
      show [_] ++ toksR [] (M4.textB false r ++ z) = _
      rw [hrest]
      unfold M7.tokOne
      rw [if_neg (show ¬ (Nd.mk k n a t ks).kind = 1 by show ¬ k = 1; omega), if_neg (show ¬ (Nd.mk k n a t ks).kind = 2 by show ¬ k = 2; omega)]
      rfl
theorem tree_text {l : List Nd} (h : M6.stableB l = true) : M7.tree (tokens (M4.textB false l)) = l := by
  unfold M6.stableB at h
  rw [Bool.and_eq_true] at h
  have hm : M3.mayE false l = 0 := by simpa using h.1
  have := toks_nodes l false [] (.inl rfl) h.2 hm
  rw [List.append_nil, toksR_nil] at this
  rw [tokens_eq, this]
  show M7.tree (M7.toksN l ++ []) = l
  rw [List.append_nil]
  exact M7.tree_nodes h.2 hm
end M5
end Go.Proofs.YteefodibpjgicaaGreat

namespace Go.Proofs.YteefodibpjgicaaGreat
namespace M7
open M3 (isText withText cat push mayE oneE okP apart)
theorem may_app (A : List Nd) : ∀ (p : Bool) (B : List Nd), mayE p (A ++ B) = 0 ↔ mayE p A = 0 ∧ mayE (lastT p A) B = 0 := by
  induction A with
  | nil => intro p B; rw [List.nil_append, M3.mayE_nil]; simp [lastT]
  | cons x r ih =>
    intro p B
    rw [List.cons_append, lastT_cons]
    constructor
    · intro h
      obtain ⟨h1, h2, h3⟩ := may_cons h
      obtain ⟨h4, h5⟩ := (ih _ _).1 h3
      refine ⟨?_, h5⟩
      rw [M3.mayE_cons, h1, h2, h4]; simp
    · rintro ⟨h, h5⟩
      obtain ⟨h1, h2, h3⟩ := may_cons h
      have h4 := (ih _ _).2 ⟨h3, h5⟩
      rw [M3.mayE_cons, h1, h2, h4]; simp
theorem allB_app (A B : List Nd) : M6.allB (A ++ B) = true ↔ M6.allB A = true ∧ M6.allB B = true := by
  rw [M6.allB_iff, M6.allB_iff, M6.allB_iff]
  constructor
  · intro h
    exact ⟨fun x hx => h x (by simp [hx]), fun x hx => h x (by simp [hx])⟩
  · rintro ⟨h1, h2⟩ x hx
    rcases List.mem_append.1 hx with hx | hx
    · exact h1 x hx
    · exact h2 x hx
end M7
end Go.Proofs.YteefodibpjgicaaGreat

namespace Go.Proofs.YteefodibpjgicaaGreat
namespace M2
open M1
theorem ownB_len {own : List UInt8} {r : Int} (h : ownB own = some r) : 2 ≤ own.length := by
  unfold ownB at h
  split at h
  · rename_i hx
    have : (own.take 2).length = 2 := by rcases hx with e | e <;> rw [e] <;> rfl
    rw [List.length_take] at this
    omega
  split at h
  · unfold numR at h
    split at h
    · rename_i hx
      have := hx.1
      rw [List.length_drop] at this
      omega
    · cases h
  · obtain ⟨n, h1, -⟩ := Option.map_eq_some_iff.1 h
    have h2 := nm_mem h1
    have h3 : ∀ p ∈ tbl, 2 ≤ p.1.length := by decide
    exact h3 _ h2
theorem decode_len1 : ∀ (n : Nat) (l : List UInt8), l.length ≤ n → (decode l).length ≤ l.length := by
  intro n
  induction n with
  | zero => intro l hl; have : l = [] := List.eq_nil_of_length_eq_zero (by omega); subst this; rw [decode_nil]; exact Nat.le_refl _
  | succ n ih =>
    intro l hl
    cases l with
    | nil => rw [decode_nil]; exact Nat.le_refl _
    | cons c t =>
      cases h : one (c :: t) with
      | none =>
        have := ih t (by simp at hl; omega)
        rw [decode_byte h]
        simp; omega
      | some p =>
        have hb := one_bd (r := p.1) (n := p.2) h
        obtain ⟨own, rest, -, e2, e3⟩ := one_some (r := p.1) (n := p.2) h
        have h4 := ownB_len e3
        have := ih ((c :: t).drop p.2) (by rw [List.length_drop]; omega)
        have he := enc_len_le p.1
        rw [decode_ref (r := p.1) (n := p.2) h, List.length_append]
        rw [List.length_drop] at this
        omega
end M2
namespace M5
theorem chars_Q2 (p : List UInt8) : qs (charsT p) ≤ 2 * p.length := by
  unfold charsT
  cases p with
  | nil => exact Nat.le_refl _
  | cons c r =>
    have h := M2.decode_len1 (c :: r).length (c :: r) (Nat.le_refl _)
    rw [if_neg (by simp), qs_one]
    show 1 + 0 + (bs _).size ≤ _
    rw [bs_sz]; simp only [List.length_cons] at *; omega
theorem raw_Q2 (t : Tok) (l : List UInt8) : qs (rawT t l).1 + 2 * (rawT t l).2.length ≤ 2 * l.length := by
  unfold rawT
  split
  · have hle := endN_le t.name.data.toList l
    have hl : (l.take (endN t.name.data.toList l)).length = endN t.name.data.toList l := by rw [List.length_take]; omega
    have h : qs (asIs (l.take (endN t.name.data.toList l))) ≤ 2 * (l.take (endN t.name.data.toList l)).length := by
      generalize l.take (endN t.name.data.toList l) = p
      unfold asIs
      cases p with
      | nil => exact Nat.le_refl _
      | cons c r =>
        rw [if_neg (by simp), qs_one]
        show 1 + 0 + (bs _).size ≤ _
        rw [bs_sz]; simp only [List.length_cons] at *; omega
    show qs (asIs _) + 2 * (l.drop _).length ≤ _
    rw [List.length_drop]; omega
  · show qs [] + 2 * l.length ≤ _
    rw [qs_nil]; omega
theorem toks_Q2 : ∀ (n : Nat) (l p : List UInt8), l.length ≤ n → qs (toksR p l) ≤ 2 * (p.length + l.length) := by
  intro n
  induction n with
  | zero =>
    intro l p hl
    obtain rfl : l = [] := List.eq_nil_of_length_eq_zero (by omega)
    rw [toksR_nil]
    exact chars_Q2 p
  | succ n ih =>
    intro l p hl
    cases l with
    | nil => rw [toksR_nil]; exact chars_Q2 p
    | cons c r =>
      cases hs : startsB (c :: r)
      · rw [toksR_text p c r hs]
        have := ih r (p ++ [c]) (by simp at hl; omega)
        rw [List.length_append, List.length_singleton] at this
        rw [List.length_cons, show p.length + (r.length + 1) = p.length + 1 + r.length by omega]
        exact this
      · rw [toksR_tag p _ hs]
        have hlt := tag_lt _ hs
        have t2 := (tag_Q _ hs).2
        have hc := chars_Q2 p
        have r1 := raw_Q2 (tagR (c :: r)).1 (tagR (c :: r)).2
        have r2 := (raw_Q (tagR (c :: r)).1 (tagR (c :: r)).2).2.1
        generalize rawT (tagR (c :: r)).1 (tagR (c :: r)).2 = W at *
        generalize tagR (c :: r) = T at *
        generalize c :: r = L at *
        have i1 := ih W.2 [] (by omega)
        rw [List.length_nil, Nat.zero_add] at i1
        have hk : qs (if T.1.kind ≠ 0 then [T.1] else []) ≤ tokQ T.1 := by
          split
          · rw [qs_one]; exact Nat.le_refl _
          · exact Nat.zero_le _
        rw [qs_app, qs_app, qs_app]
        omega
theorem toks_fit3 (l : List UInt8) (h : l.length ≤ 200000) : FitL (tokens l) := by
  have h1 := toks_Q2 l.length l [] (Nat.le_refl _)
  have h2 := (toks_Q l.length l [] (Nat.le_refl _)).2
  rw [List.length_nil, Nat.zero_add] at h1 h2
  refine ⟨by have : qs (toksR [] l) ≤ _ := h1; unfold qs at this; show (List.map tokQ (toksR [] l)).sum ≤ _; omega, fun t ht => ?_⟩
  obtain ⟨a, b, c, d⟩ := h2 t ht
  refine ⟨⟨by omega, by omega, by omega⟩, ?_⟩
  rcases d with e | e | e | e <;> rw [e] <;> decide
end M5
open M5 (R)
theorem values_right {l : List Att} (h : M3.valuesE l = 0) : ∀ a ∈ l, M1.isB a.value.data.toList = true := by
  induction l with
  | nil => intro a ha; exact (nomatch ha)
  | cons b r ih =>
    rw [M3.valuesE] at h
    split at h
    · rename_i hb
      intro a ha
      rcases List.mem_cons.1 ha with rfl | ha
      · exact hb
      · exact ih h a ha
    · exact absurd h (by decide)
def cst : List Nd → Nat
  | [] => 0
  | .mk _ _ a t ks :: r => 65 + 754 * a.length + 6 * t.size + cst ks + cst r
termination_by l => SizeOf.sizeOf l
def cst1 (x : Nd) : Nat := 65 + 754 * x.attrs.length + 6 * x.text.size + cst x.kids
theorem cst_nil : cst [] = 0 := by rw [cst]
theorem cst_cons (x : Nd) (r : List Nd) : cst (x :: r) = cst1 x + cst r := by cases x; rw [cst]; rfl
theorem cst_app (a b : List Nd) : cst (a ++ b) = cst a + cst b := by
  induction a with
  | nil => rw [List.nil_append, cst_nil, Nat.zero_add]
  | cons x r ih => rw [List.cons_append, cst_cons, cst_cons, ih]; omega
theorem cst_push (L : List Nd) (n : Nd) : cst (M3.push L n) ≤ cst L + cst1 n := by
  cases hb : M3.bareB n
  · rcases List.eq_nil_or_concat L with rfl | ⟨A, y, rfl⟩
    · rw [M3.push_none hb, cst_cons, cst_nil]; omega
    · rw [List.concat_eq_append, M3.push_snoc hb]
      split
      · rw [cst_app, cst_app, cst_cons, cst_cons, cst_nil]
        have h1 : (M3.cat y.text n.text).size = y.text.size + n.text.size := by
          show ((y.text.data.toList ++ n.text.data.toList).toArray).size = _
          rw [List.size_toArray, List.length_append]
          rfl
        have h2 : cst1 (M3.withText y (M3.cat y.text n.text)) = 65 + 754 * y.attrs.length + 6 * (M3.cat y.text n.text).size + cst y.kids := rfl
        rw [h2, h1]
        unfold cst1
        omega
      · rw [cst_app (A ++ [y]), cst_cons, cst_nil]; omega
  · rw [M3.push_bare hb]; omega
theorem cst_merge (l : List Nd) : cst (M3.merge l) ≤ cst l := by
  have key : ∀ (l out : List Nd), cst (l.foldl M3.push out) ≤ cst out + cst l := by
    intro l
    induction l with
    | nil => intro out; show cst out ≤ _; omega
    | cons x r ih =>
      intro out
      have h1 := ih (M3.push out x)
      have h2 := cst_push out x
      rw [List.foldl_cons, cst_cons]
      omega
  have := key l []
  rw [cst_nil] at this
  unfold M3.merge
  omega
def SmR : List Nd → Prop
  | [] => True
  | .mk k n a t ks :: r => M5.SmallN (.mk k n a t ks) ∧ SmR ks ∧ SmR r
termination_by l => SizeOf.sizeOf l
theorem smr_nil : SmR [] := by rw [SmR]; trivial
theorem smr_cons {x : Nd} {r : List Nd} : SmR (x :: r) ↔ M5.SmallN x ∧ SmR x.kids ∧ SmR r := by cases x; rw [SmR]; rfl
theorem smr_iff {l : List Nd} : SmR l ↔ ∀ x ∈ l, M5.SmallN x ∧ SmR x.kids := by
  induction l with
  | nil => simp [smr_nil]
  | cons x r ih => rw [smr_cons, ih]; simp; exact ⟨fun h => ⟨⟨h.1, h.2.1⟩, h.2.2⟩, fun h => ⟨h.1.1, h.1.2, h.2⟩⟩
theorem smr_merge {l : List Nd} (h : SmR l) : SmR (M3.merge l) :=
  smr_iff.2 (M3.merge_all (P := fun x => M5.SmallN x ∧ SmR x.kids) (fun x y hx _ _ _ => by
    unfold M5.SmallN at *
    rw [M3.withText_name, M3.withText_attrs, M3.withText_kids]; exact hx) l (smr_iff.1 h))
theorem text_cst (l : List Nd) : ∀ raw, SmR l → (M4.textB raw l).length ≤ cst l := by
  induction l using Nd.ind with
  | h0 => intro raw _; rw [M4.textB_nil]; exact Nat.zero_le _
  | h1 k n a t ks r ih1 ih2 =>
    intro raw hs
    obtain ⟨s1, s2, s3⟩ := smr_cons.1 hs
    rw [M4.textB_cons, List.length_append, cst_cons]
    have h2 := ih2 raw s3
    have ha : ∀ l : List Att, (∀ b ∈ l, b.name.size ≤ 30 ∧ b.value.size ≤ 120) → (M4.attsB l).length ≤ 754 * l.length := by
      intro l
      induction l with
      | nil => intro _; exact Nat.le_refl _
      | cons b r ih =>
        intro hb
        have e : M4.attsB (b :: r) = M4.attB b ++ M4.attsB r := by unfold M4.attsB; rw [List.flatMap_cons]
        have h := M2.escape_len true b.value.data.toList
        have h2 : (M4.attB b).length = 4 + b.name.size + (M2.escape true b.value.data.toList).length := by
          unfold M4.attB
          simp only [List.length_cons, List.length_append, List.length_nil]
          have : b.name.data.toList.length = b.name.size := rfl
          omega
        have h3 : b.value.data.toList.length = b.value.size := rfl
        have h4 := hb b (by simp)
        have h5 := ih (fun c hc => hb c (by simp [hc]))
        rw [e, List.length_append, List.length_cons]
        omega
    have h1 : (M4.oneB raw (.mk k n a t ks)).length ≤ cst1 (.mk k n a t ks) := by
      have e : cst1 (.mk k n a t ks) = 65 + 754 * a.length + 6 * t.size + cst ks := rfl
      rw [e]
      have s10 : n.size ≤ 30 := s1.1
      unfold M4.oneB
      by_cases hk1 : k = 1
      · rw [if_pos (show (Nd.mk k n a t ks).kind = 1 from hk1)]
        show (M4.headB n a ++ ((if M3.voidB n.data.toList = true then [] else M4.textB (M3.rawB n.data.toList) ks) ++ M4.endB n)).length ≤ _
        rw [List.length_append, List.length_append, M4.headB_len]
        have h3 := M4.endB_len n
        have h4 := ha a (fun b hb => s1.2 b hb)
        have h5 : (if M3.voidB n.data.toList = true then [] else M4.textB (M3.rawB n.data.toList) ks).length ≤ cst ks := by
          split
          · exact Nat.zero_le _
          · exact ih1 _ s2
        omega
      rw [if_neg (show ¬ (Nd.mk k n a t ks).kind = 1 from hk1)]
      by_cases hk2 : k = 2
      · rw [if_pos (show (Nd.mk k n a t ks).kind = 2 from hk2)]
        show (M4.charsB raw t).length ≤ _
        have h3 : t.data.toList.length = t.size := rfl
        unfold M4.charsB
        split
        · omega
        · have := M2.escape_len false t.data.toList
          omega
      rw [if_neg (show ¬ (Nd.mk k n a t ks).kind = 2 from hk2)]
      by_cases hk3 : k = 3
      · rw [if_pos (show (Nd.mk k n a t ks).kind = 3 from hk3)]
        show (M4.commB t).length ≤ _
        unfold M4.commB
        simp only [List.length_append, List.length_cons, List.length_nil]
        have h3 : t.data.toList.length = t.size := rfl
        omega
      · rw [if_neg (show ¬ (Nd.mk k n a t ks).kind = 3 from hk3)]
        exact Nat.zero_le _
    omega
theorem smr_goodN (l : List Nd) : Sm30 l → SmR (M3.goodN l) := by
  induction l using Nd.ind with
  | h0 => intro _; rw [M3.goodN_nil]; exact smr_nil
  | h1 k n ats t ks r ih1 ih2 =>
    intro hs
    obtain ⟨s1, s2, s3⟩ := sm_cons.1 hs
    rw [M3.goodN_cons, M3.good1_mk]
    refine smr_cons.2 ?_
    by_cases h : M3.kindN k = 1
    · rw [if_pos h]
      have h6 := M3.wordN_size n 30 s1.1 (by omega)
      refine ⟨⟨h6, ?_⟩, smr_merge (ih1 s2), ih2 s3⟩
      refine M3.goodA_all ats (fun a ha => ?_)
      have h7 := s1.2.2 a ha
      have h8 := M3.attrN_size a.name 30 h7.1 (by omega)
      have h9 := M3.rightN_size a.value
      exact ⟨h8, by show (M3.rightN a.value).size ≤ _; omega⟩
    · rw [if_neg h]
      exact ⟨⟨by show (⟨#[]⟩ : ByteArray).size ≤ _; decide, fun a ha => (nomatch (show a ∈ ([] : List Att) from ha))⟩, smr_nil, ih2 s3⟩
theorem cst_goodN (l : List Nd) : Sm30 l → cst (M3.goodN l) ≤ 785 * M3.weight l := by
  induction l using Nd.ind with
  | h0 => intro _; rw [M3.goodN_nil, cst_nil]; exact Nat.zero_le _
  | h1 k n ats t ks r ih1 ih2 =>
    intro hs
    obtain ⟨s1, s2, s3⟩ := sm_cons.1 hs
    have h2 := ih2 s3
    have h1 := Nat.le_trans (cst_merge (M3.goodN ks)) (ih1 s2)
    rw [M3.goodN_cons, M3.good1_mk, cst_cons, M3.weight_cons]
    have hw : 785 * (1 + (Nd.mk k n ats t ks).attrs.length + M3.weight (Nd.mk k n ats t ks).kids + M3.weight r) = 785 + 785 * ats.length + 785 * M3.weight ks + 785 * M3.weight r := by
      show 785 * (1 + ats.length + M3.weight ks + M3.weight r) = _
      omega
    rw [hw]
    split
    · have h3 := M3.goodA_len ats
      show 65 + 754 * (M3.goodA ats).length + 6 * 0 + cst (M3.merge (M3.goodN ks)) + _ ≤ _
      omega
    · have h6 := M3.rightN_size t
      have h7 : t.size ≤ 30 := s1.2.1
      show 65 + 754 * 0 + 6 * (M3.rightN t).size + cst [] + _ ≤ _
      rw [cst_nil]
      omega
end Go.Proofs.YteefodibpjgicaaGreat

namespace Go.Proofs.YteefodibpjgicaaGreat
theorem cst_filter (q : Nd → Bool) (l : List Nd) : cst (l.filter q) ≤ cst l := by
  induction l with
  | nil => exact Nat.le_refl _
  | cons x r ih =>
    cases h : q x
    · rw [List.filter_cons_of_neg (by rw [h]; exact Bool.false_ne_true), cst_cons]; omega
    · rw [List.filter_cons_of_pos h, cst_cons, cst_cons]; omega
theorem smr_filter (q : Nd → Bool) {l : List Nd} (h : SmR l) : SmR (l.filter q) :=
  smr_iff.2 (fun x hx => smr_iff.1 h x (List.mem_filter.1 hx).1)
theorem smr_app {a b : List Nd} (ha : SmR a) (hb : SmR b) : SmR (a ++ b) :=
  smr_iff.2 (fun x hx => by
    rcases List.mem_append.1 hx with hx | hx
    · exact smr_iff.1 ha x hx
    · exact smr_iff.1 hb x hx)
theorem steadyQ_cst (l : List Nd) : ∀ q, SmR l → cst (M6.steadyQ q l) ≤ cst l ∧ SmR (M6.steadyQ q l) := by
  induction l using Nd.ind with
  | h0 => intro q _; rw [M6.steadyQ_nil]; exact ⟨Nat.le_refl _, smr_nil⟩
  | h1 k n a t ks r ih1 ih2 =>
    intro q hs
    obtain ⟨s1, s2, s3⟩ := smr_cons.1 hs
    have s2 : SmR ks := s2
    obtain ⟨r1, r2⟩ := ih2 q s3
    obtain ⟨k1, k2⟩ := ih1 (M6.fitsB n) s2
    have h1 := Nat.le_trans (cst_filter (M6.fitsB n) _) (Nat.le_trans (cst_merge _) k1)
    have h2 := smr_filter (M6.fitsB n) (smr_merge k2)
    rw [M6.steadyQ_cons, cst_app, cst_cons]
    have e : cst1 (.mk k n a t ks) = 65 + 754 * a.length + 6 * t.size + cst ks := rfl
    rw [e]
    split
    · unfold M6.oneN
      split
      · refine ⟨?_, smr_app (smr_cons.2 ⟨s1, h2, smr_nil⟩) r2⟩
        rw [cst_cons, cst_nil]
        show 65 + 754 * a.length + 6 * t.size + cst ((M3.merge (M6.steadyQ (M6.fitsB n) ks)).filter (M6.fitsB n)) + 0 + _ ≤ _
        omega
      · refine ⟨?_, smr_app (smr_cons.2 ⟨s1, s2, smr_nil⟩) r2⟩
        rw [cst_cons, cst_nil, e]
        omega
    · refine ⟨?_, smr_app smr_nil r2⟩
      rw [cst_nil]; omega
def stN (l : List Nd) : List Nd := M6.steady (gdN l)
theorem st_text (l : List Nd) (raw : Bool) : (M4.textB raw (stN l)).length ≤ 188400 := by
  obtain ⟨h1, h2⟩ := steadyQ_cst (gdN l) (fun _ => true) (smr_merge (smr_goodN _ (few_sm l)))
  have h3 := text_cst (stN l) raw (smr_merge h2)
  have h4 := Nat.le_trans (cst_merge _) (cst_goodN (fewN l) (few_sm l))
  have h5 := fewN_weight l
  have h6 : cst (gdN l) ≤ 785 * M3.weight (fewN l) := h4
  have h7 : cst (stN l) ≤ cst (gdN l) := Nat.le_trans (cst_merge _) h1
  omega
theorem st_toks (l : List Nd) : FitL (M5.tokens (M4.textB false (stN l))) := M5.toks_fit3 _ (by have := st_text l false; omega)
theorem st_fit (l : List Nd) : FitN (stN l) := fit_steady (gd_fit l) (by have := dt_gd l; omega)
theorem st_stable (l : List Nd) : M6.stableB (stN l) = true := by
  obtain ⟨t1, t2⟩ := M6.steady_stable (gdN l) (M6.ok_of_may _ false (gd_may l)).1
  show M6.stableB (M6.steady (gdN l)) = true
  rw [M6.stable_may t1, t2]
end Go.Proofs.YteefodibpjgicaaGreat

namespace Go.Proofs.YteefodibpjgicaaGreat
open Go.RowKit
theorem endV_some (o : Option Nat) (n : Nat) : (endV o == (n : Int)) = (o == some n) := by
  rw [Bool.eq_iff_iff]
  cases o with
  | none => simp [endV]
  | some k => simp [endV]; omega
theorem held_data (nm tx : ByteArray) : (tx ++ ⟨#[60, 47]⟩ ++ nm ++ ⟨#[62]⟩ : ByteArray).data.toList = tx.data.toList ++ ([60, 47] ++ nm.data.toList ++ [62]) := by
  simp [ByteArray.data_append, Array.toList_append]
def BoolB (b : Bool) (w : World) (e : Ending) (w' : World) : Prop := e = .returned (.bool b) ∧ Below w.heap.size w w'
end Go.Proofs.YteefodibpjgicaaGreat

namespace Go.Proofs.YteefodibpjgicaaGreat
open Go.RowKit
theorem has_short (w l : List UInt8) (h : l.length < w.length) : M6.hasB w l = false := by
  induction l with
  | nil => rfl
  | cons c r ih =>
    unfold M6.hasB at *
    have hp : w.isPrefixOf (c :: r) = false := by
      rw [Bool.eq_false_iff]
      intro e
      have := (List.isPrefixOf_iff_prefix.1 e).length_le
      omega
    have ih := ih (by simp only [List.length_cons] at h; omega)
    rw [M5.findL, hp, if_neg Bool.false_ne_true]
    simp only [decide_eq_false_iff_not, List.length_cons] at ih ⊢
    omega
theorem has_cons (w : List UInt8) (c : UInt8) (r : List UInt8) : M6.hasB w (c :: r) = (w.isPrefixOf (c :: r) || M6.hasB w r) := by
  unfold M6.hasB
  rw [M5.findL]
  cases hp : w.isPrefixOf (c :: r)
  · rw [if_neg Bool.false_ne_true, Bool.false_or, Bool.eq_iff_iff]
    simp
  · rw [if_pos rfl]
    simp
theorem has_step (wd : List UInt8) (s : ByteArray) (i n : Nat) (hn : wd.length = n) (h0 : 0 < n) (h : i + n ≤ s.size) : M6.hasB wd (s.data.toList.drop i) = (((s.extract i (i + n)).data.toList == wd) || M6.hasB wd (s.data.toList.drop (i + 1))) := by
  subst hn
  have hx : (s.extract i (i + wd.length)).data.toList = (s.data.toList.drop i).take wd.length := by rw [Lib.extract_data, Nat.add_sub_cancel_left]
  rw [hx]
  have e : wd.isPrefixOf (s.data.toList.drop i) = ((s.data.toList.drop i).take wd.length == wd) := by
    rw [Bool.eq_iff_iff, List.isPrefixOf_iff_prefix, List.prefix_iff_eq_take, beq_iff_eq]
    exact eq_comm
  rw [← e, drop_cons s i (by omega), has_cons]
set_option maxHeartbeats 1000000 in
theorem ref06has (s wd : ByteArray) (w : World) (hs : s.size ≤ 1073741824) (h0 : 0 < wd.size) (hw : wd.size ≤ 1000) :
    Calls Tryz.prog 58 #[.string s, .string wd] w fun e w' => e = .returned (.bool (M6.hasB wd.data.toList s.data.toList)) ∧ w = w' := by
  obtain ⟨R, hR⟩ : ∃ R, Hid (R = M6.hasB wd.data.toList (s.data.toList.drop 0)) := ⟨_, rfl⟩
  rw [show M6.hasB wd.data.toList s.data.toList = R from hR.out.symm]
  obtain ⟨n, hn⟩ : ∃ n, wd.size = n := ⟨_, rfl⟩
  have hwl : wd.data.toList.length = n := hn
  obtain ⟨wo, rfl⟩ : ∃ wo : World, wo = w := ⟨_, rfl⟩
  go_enter Tryz.func58, Tryz.ntmps58
  go_wp2_with fail
  go_loopw [5] (fun u5 wr => wo = wr ∧ ∃ i : Nat, i ≤ s.size + 1 ∧ u5 = .int .i64 (i : Int) ∧ Hid (R = M6.hasB wd.data.toList (s.data.toList.drop i))) (fun u5 _ => s.size + 1 - (intOf u5).toNat)
  case atStart => exact ⟨rfl, 0, by omega, rfl, hR⟩
  case round =>
    obtain ⟨rfl, i, hi, rfl, hv⟩ := hrel
    by_cases hlt : i + n ≤ s.size
    · have hd := hv.out.trans (has_step wd.data.toList s i n hwl (by omega) hlt)
      clear hv
      have hlt2 : i < s.size + 1 := by omega
      cases ht : ((s.extract i (i + n)).data.toList == wd.data.toList)
      · rw [ht, Bool.false_or] at hd
        have ht2 : ((s.extract i (i + n)).toList == wd.toList) = false := by rw [Lib.toList_data, Lib.toList_data]; exact ht
        clear ht
        replace hd := Lib.hid hd
        go_wp2_with fail
        go_roundw
        case rel => exact ⟨trivial, i + 1, by omega, by go_num, hd⟩
        case measure => exact meas_nat hlt2
      · rw [ht, Bool.true_or] at hd
        have ht2 : ((s.extract i (i + n)).toList == wd.toList) = true := by rw [Lib.toList_data, Lib.toList_data]; exact ht
        clear ht
        replace hd := Lib.hid hd
        go_wp2_with fail
        go_ret
        exact ⟨by rw [hd.out]; rfl, rfl⟩
    · have hd := hv.out.trans (has_short _ _ (by rw [List.length_drop, hwl]; show s.size - i < n; omega))
      replace hd := Lib.hid hd
      clear hv
      go_wp2_with fail
      go_ret
      exact ⟨by rw [hd.out]; rfl, rfl⟩
set_option maxHeartbeats 4000000 in
set_option maxRecDepth 100000 in
theorem ref06Fits (p : ByteArray) (x : Nd) (va vk : Value) (w : World) (hva : ∃ a n c, va = .slice a n c) (hvk : ∃ a n c, vk = .slice a n c) (hp : p.size ≤ 268435456) (ht : x.text.size ≤ 268435456) :
    Calls Tryz.prog 60 #[.string p, x.val va vk] w (BoolB (M6.fitsB p x) w) := by
  obtain ⟨a1, n1, c1, rfl⟩ := hva
  obtain ⟨a2, n2, c2, rfl⟩ := hvk
  have hV := Lib.hid (fun w => ref03Void p w)
  have hR := Lib.hid (fun w => ref03Raw p w)
  have hC := Lib.hid (fun w => ref06Closes p x.name w)
  obtain ⟨k, n, ats, tx, ks⟩ := x
  simp only [Nd.text, Nd.name] at hC ht
  have hz : (tx ++ ⟨#[60, 47]⟩ ++ p ++ ⟨#[62]⟩ : ByteArray).size ≤ 1073741824 := by
    simp only [ByteArray.size_append]
    show tx.size + 2 + p.size + 1 ≤ _
    omega
  have hE := fun w => ref05Ends (tx ++ ⟨#[60, 47]⟩ ++ p ++ ⟨#[62]⟩ : ByteArray) p w hz (by omega)
  rw [held_data] at hE
  have hv : Hid ((endV (M5.endsL ([60, 47] ++ p.data.toList) (tx.data.toList ++ ([60, 47] ++ p.data.toList ++ [62]))) == (tx.size : Int)) = M6.endsHere p.data.toList tx.data.toList) := by
    show _ = _
    rw [endV_some]
    rfl
  generalize M5.endsL ([60, 47] ++ p.data.toList) (tx.data.toList ++ ([60, 47] ++ p.data.toList ++ [62])) = o at *
  replace hE := Lib.hid hE
  have hfit : M6.fitsB p (.mk k n ats tx ks) = if M3.voidB p.data.toList then false else if M3.rawB p.data.toList then (k == 2) && M6.endsHere p.data.toList tx.data.toList else !(decide (k = 1) && M6.closesB p.data.toList n.data.toList) := rfl
  rw [hfit]
  clear hfit hz
  show Calls Tryz.prog 60 #[.string p, .agg #[.int .i64 k, .string n, .slice a1 n1 c1, .string tx, .slice a2 n2 c2]] w (BoolB _ w)
  have z1 : ¬ 9223372036854775807 < tx.size + 2 := by omega
  have z2 : ¬ 9223372036854775807 < tx.size + 2 + p.size := by omega
  have z3 : ¬ 9223372036854775807 < tx.size + 2 + p.size + 1 := by omega
  obtain ⟨wo, rfl⟩ : ∃ wo : World, wo = w := ⟨_, rfl⟩
  have bx := Box.new wo 41 [.int .i64 k, .string n, .slice a1 n1 c1, .string tx, .slice a2 n2 c2]
  have hb0 : Below wo.heap.size wo (wo.alloc (.cells #[.int .i64 k, .string n, .slice a1 n1 c1, .string tx, .slice a2 n2 c2] 41)) := (Below.refl _ wo).alloc (Nat.le_refl _) _
  cases hvd : M3.voidB p.data.toList
  · cases hr : M3.rawB p.data.toList
    · generalize M6.closesB p.data.toList n.data.toList = cb at *
      rw [hvd] at hV
      rw [hr] at hR
      rw [if_neg Bool.false_ne_true, if_neg Bool.false_ne_true]
      cases hk : (k == 1)
      · rw [show decide (k = 1) = false from hk]
        have hk3 : (k != 1) = true := by rw [bne, hk]; rfl
        go_enter Tryz.func60, Tryz.ntmps60
        go_wp2_with fail
        refine (hV.out _).mono ?_
        rintro e w1 ⟨rfl, rfl⟩
        go_wp2_with fail
        refine (hR.out _).mono ?_
        rintro e w1 ⟨rfl, rfl⟩
        go_wp2_with fail
        refine (hC.out _).mono ?_
        rintro e w1 ⟨rfl, hb1⟩
        have bx1 := bx.below hb1 (by simp)
        have p0 := bx1.cell (i := 0) rfl
        go_wp2_with fail
        go_ret
        exact ⟨rfl, bt hb0 hb1⟩
      · rw [show decide (k = 1) = true from hk]
        have hk3 : (k != 1) = false := by rw [bne, hk]; rfl
        go_enter Tryz.func60, Tryz.ntmps60
        go_wp2_with fail
        refine (hV.out _).mono ?_
        rintro e w1 ⟨rfl, rfl⟩
        go_wp2_with fail
        refine (hR.out _).mono ?_
        rintro e w1 ⟨rfl, rfl⟩
        go_wp2_with fail
        refine (hC.out _).mono ?_
        rintro e w1 ⟨rfl, hb1⟩
        have bx1 := bx.below hb1 (by simp)
        have p0 := bx1.cell (i := 0) rfl
        go_wp2_with fail
        go_ret
        exact ⟨by cases cb <;> rfl, bt hb0 hb1⟩
    · rw [hvd] at hV
      rw [hr] at hR
      rw [if_neg Bool.false_ne_true, if_pos rfl]
      cases hk : (k == 2)
      · rw [Bool.false_and]
        go_enter Tryz.func60, Tryz.ntmps60
        go_wp2_with fail
        refine (hV.out _).mono ?_
        rintro e w1 ⟨rfl, rfl⟩
        go_wp2_with fail
        refine (hR.out _).mono ?_
        rintro e w1 ⟨rfl, rfl⟩
        go_wp2_with fail
        go_quiet (fail)
        go_wp2_with fail
        go_ret
        exact ⟨rfl, below_drewN hb0 _⟩
      · obtain rfl : k = 2 := by simpa using hk
        go_enter Tryz.func60, Tryz.ntmps60
        go_wp2_with fail
        refine (hV.out _).mono ?_
        rintro e w1 ⟨rfl, rfl⟩
        go_wp2_with fail
        refine (hR.out _).mono ?_
        rintro e w1 ⟨rfl, rfl⟩
        go_wp2_with fail
        have hsz : (wo.alloc (.cells #[.int .i64 2, .string n, .slice a1 n1 c1, .string tx, .slice a2 n2 c2] 41)).heap.size = wo.heap.size + 1 := by simp
        obtain ⟨W0, hW0⟩ : ∃ W0, wo.alloc (.cells #[.int .i64 2, .string n, .slice a1 n1 c1, .string tx, .slice a2 n2 c2] 41) = W0 := ⟨_, rfl⟩
        change Box (wo.alloc (.cells #[.int .i64 2, .string n, .slice a1 n1 c1, .string tx, .slice a2 n2 c2] 41)) _ _ _ at bx
        rw [hW0] at bx hb0 hsz ⊢
        clear hW0
        have p0 := bx.cell (i := 0) rfl
        have p3 := bx.cell (i := 3) rfl
        refine wp_region_known (n := 18) ([some (.pointer (some ⟨wo.heap.size, 0, none⟩)), some (.int .i64 2), some (.bool true), some (.bool true), some (.pointer (some ⟨wo.heap.size, 3, none⟩)), some (.string tx), some (.string (tx ++ ⟨#[60, 47]⟩)), some (Value.string p), some (.string (tx ++ ⟨#[60, 47]⟩ ++ p)), some (.string (tx ++ ⟨#[60, 47]⟩ ++ p ++ ⟨#[62]⟩)), some (Value.string p), some (.int .i64 (endV o)), some (.pointer (some ⟨wo.heap.size, 3, none⟩)), some (.string tx), some (.int .i64 (tx.size : Int)), some (.bool (endV o == (tx.size : Int))), some (.bool (endV o == (tx.size : Int))), some (.bool (endV o == (tx.size : Int)))] : List (Option Value)) (fun t => ⟨#[Value.string p, Value.agg #[Value.int IntKind.i64 2, Value.string n, Value.slice a1 n1 c1, Value.string tx, Value.slice a2 n2 c2], undef, Value.pointer (some ⟨wo.heap.size, 0, none⟩), t 17, Value.bool false, Value.bool true, undef, Value.string p, Value.bool false, Value.string p, Value.bool true, Value.bool false, Value.bool true, t 0, t 1, t 2, t 3, t 4, t 5, t 6, t 7, t 8, t 9, t 10, t 11, t 12, t 13, t 14, t 15, t 16, undef, undef, undef, undef, undef, undef, undef, undef, undef, undef, undef], []⟩) (fun f t W => Below W0.heap.size W0 W) (fun j => match j with | 0 => undef | 1 => undef | 2 => undef | 3 => undef | 4 => undef | 5 => undef | 6 => undef | 7 => undef | 8 => undef | 9 => undef | 10 => undef | 11 => undef | 12 => undef | 13 => undef | 14 => undef | 15 => undef | 16 => undef | 17 => Value.bool false | _ => undef) (by kernel_rfl) (by rfl) (by rfl) (by kernel_rfl) rfl ?i0 ?step ?fin
        case i0 =>
          exact (Below.refl _ W0).drew
        case step =>
          intro j0 hj0 f t W hfi hwt hk2 hI
          have s0 := cell_of_below hI p0 (by omega)
          have s3 := cell_of_below hI p3 (by omega)
          obtain rfl | rfl | rfl | rfl | rfl | rfl | rfl | rfl | rfl | rfl | rfl | rfl | rfl | rfl | rfl | rfl | rfl | rfl : j0 = 0 ∨ j0 = 1 ∨ j0 = 2 ∨ j0 = 3 ∨ j0 = 4 ∨ j0 = 5 ∨ j0 = 6 ∨ j0 = 7 ∨ j0 = 8 ∨ j0 = 9 ∨ j0 = 10 ∨ j0 = 11 ∨ j0 = 12 ∨ j0 = 13 ∨ j0 = 14 ∨ j0 = 15 ∨ j0 = 16 ∨ j0 = 17 := by omega
          · -- operation 0
            replace hI := Lib.hid hI
            replace hk2 := Lib.hid hk2
            clear hwt
            refine wpOp_step rfl (fun K hK => ?_)
            go_simp
            exact hK _ _ ⟨_, by simp [updT], hk2.out.at_ rfl, hI.out⟩
          · -- operation 1
            have e0 : t 0 = .pointer (some ⟨wo.heap.size, 0, none⟩) := hk2 0 _ (hwt 0 (by kernel_rfl)) rfl
            replace hI := Lib.hid hI
            replace hk2 := Lib.hid hk2
            clear hwt
            refine wpOp_step rfl (fun K hK => ?_)
            go_simp
            exact hK _ _ ⟨_, by simp [updT, e0], hk2.out.at_ rfl, hI.out⟩
          · -- operation 2
            have e1 : t 1 = .int .i64 2 := hk2 1 _ (hwt 1 (by kernel_rfl)) rfl
            replace hI := Lib.hid hI
            replace hk2 := Lib.hid hk2
            clear hwt
            refine wpOp_step rfl (fun K hK => ?_)
            go_simp
            exact hK _ _ ⟨_, by simp [updT, e1], hk2.out.at_ rfl, hI.out⟩
          · -- operation 3
            have e2 : t 2 = .bool true := hk2 2 _ (hwt 2 (by kernel_rfl)) rfl
            replace hI := Lib.hid hI
            replace hk2 := Lib.hid hk2
            clear hwt
            refine wpOp_step rfl (fun K hK => ?_)
            go_simp
            exact hK _ _ ⟨_, by simp [updT, e2], hk2.out.at_ rfl, hI.out⟩
          · -- operation 4
            have e3 : t 3 = .bool true := hk2 3 _ (hwt 3 (by kernel_rfl)) rfl
            replace hI := Lib.hid hI
            replace hk2 := Lib.hid hk2
            clear hwt
            refine wpOp_step rfl (fun K hK => ?_)
            go_simp
            exact hK _ _ ⟨_, by simp [updT, e3], hk2.out.at_ rfl, hI.out⟩
          · -- operation 5
            have e3 : t 3 = .bool true := hk2 3 _ (hwt 3 (by kernel_rfl)) rfl
            have e4 : t 4 = .pointer (some ⟨wo.heap.size, 3, none⟩) := hk2 4 _ (hwt 4 (by kernel_rfl)) rfl
            replace hI := Lib.hid hI
            replace hk2 := Lib.hid hk2
            clear hwt
            refine wpOp_step rfl (fun K hK => ?_)
            go_simp
            exact hK _ _ ⟨_, by simp [updT, e3, e4], hk2.out.at_ rfl, hI.out⟩
          · -- operation 6
            have e3 : t 3 = .bool true := hk2 3 _ (hwt 3 (by kernel_rfl)) rfl
            have e5 : t 5 = .string tx := hk2 5 _ (hwt 5 (by kernel_rfl)) rfl
            replace hI := Lib.hid hI
            replace hk2 := Lib.hid hk2
            clear hwt
            refine wpOp_step rfl (fun K hK => ?_)
            go_simp
            exact hK _ _ ⟨_, by simp [updT, e3, e5], hk2.out.at_ rfl, hI.out⟩
          · -- operation 7
            have e3 : t 3 = .bool true := hk2 3 _ (hwt 3 (by kernel_rfl)) rfl
            replace hI := Lib.hid hI
            replace hk2 := Lib.hid hk2
            clear hwt
            refine wpOp_step rfl (fun K hK => ?_)
            go_simp
            exact hK _ _ ⟨_, by simp [updT, e3], hk2.out.at_ rfl, hI.out⟩
          · -- operation 8
            have e3 : t 3 = .bool true := hk2 3 _ (hwt 3 (by kernel_rfl)) rfl
            have e6 : t 6 = .string (tx ++ ⟨#[60, 47]⟩) := hk2 6 _ (hwt 6 (by kernel_rfl)) rfl
            have e7 : t 7 = Value.string p := hk2 7 _ (hwt 7 (by kernel_rfl)) rfl
            replace hI := Lib.hid hI
            replace hk2 := Lib.hid hk2
            clear hwt
            refine wpOp_step rfl (fun K hK => ?_)
            go_simp
            exact hK _ _ ⟨_, by simp [updT, e3, e6, e7], hk2.out.at_ rfl, hI.out⟩
          · -- operation 9
            have e3 : t 3 = .bool true := hk2 3 _ (hwt 3 (by kernel_rfl)) rfl
            have e8 : t 8 = .string (tx ++ ⟨#[60, 47]⟩ ++ p) := hk2 8 _ (hwt 8 (by kernel_rfl)) rfl
            replace hI := Lib.hid hI
            replace hk2 := Lib.hid hk2
            clear hwt
            refine wpOp_step rfl (fun K hK => ?_)
            go_simp
            exact hK _ _ ⟨_, by simp [updT, e3, e8], hk2.out.at_ rfl, hI.out⟩
          · -- operation 10
            have e3 : t 3 = .bool true := hk2 3 _ (hwt 3 (by kernel_rfl)) rfl
            replace hI := Lib.hid hI
            replace hk2 := Lib.hid hk2
            clear hwt
            refine wpOp_step rfl (fun K hK => ?_)
            go_simp
            exact hK _ _ ⟨_, by simp [updT, e3], hk2.out.at_ rfl, hI.out⟩
          · -- operation 11
            have e3 : t 3 = .bool true := hk2 3 _ (hwt 3 (by kernel_rfl)) rfl
            have e9 : t 9 = .string (tx ++ ⟨#[60, 47]⟩ ++ p ++ ⟨#[62]⟩) := hk2 9 _ (hwt 9 (by kernel_rfl)) rfl
            have e10 : t 10 = Value.string p := hk2 10 _ (hwt 10 (by kernel_rfl)) rfl
            have hC := Lib.hid (hE.out W)
            replace hk2 := Lib.hid hk2
            replace hI := Lib.hid hI
            clear hwt
            refine wpOp_step rfl (fun K hK => ?_)
            go_simp
            refine hC.out.mono ?_
            rintro e w5 ⟨rfl, hb5⟩
            exact hK _ _ ⟨_, by simp [updT, e3, e9, e10], hk2.out.at_ rfl, hI.out.trans (hb5.mono hI.out.size)⟩
          · -- operation 12
            have e3 : t 3 = .bool true := hk2 3 _ (hwt 3 (by kernel_rfl)) rfl
            replace hI := Lib.hid hI
            replace hk2 := Lib.hid hk2
            clear hwt
            refine wpOp_step rfl (fun K hK => ?_)
            go_simp
            exact hK _ _ ⟨_, by simp [updT, e3], hk2.out.at_ rfl, hI.out⟩
          · -- operation 13
            have e3 : t 3 = .bool true := hk2 3 _ (hwt 3 (by kernel_rfl)) rfl
            have e12 : t 12 = .pointer (some ⟨wo.heap.size, 3, none⟩) := hk2 12 _ (hwt 12 (by kernel_rfl)) rfl
            replace hI := Lib.hid hI
            replace hk2 := Lib.hid hk2
            clear hwt
            refine wpOp_step rfl (fun K hK => ?_)
            go_simp
            exact hK _ _ ⟨_, by simp [updT, e3, e12], hk2.out.at_ rfl, hI.out⟩
          · -- operation 14
            have e3 : t 3 = .bool true := hk2 3 _ (hwt 3 (by kernel_rfl)) rfl
            have e13 : t 13 = .string tx := hk2 13 _ (hwt 13 (by kernel_rfl)) rfl
            replace hI := Lib.hid hI
            replace hk2 := Lib.hid hk2
            clear hwt
            refine wpOp_step rfl (fun K hK => ?_)
            go_simp
            exact hK _ _ ⟨_, by simp [updT, e3, e13], hk2.out.at_ rfl, hI.out⟩
          · -- operation 15
            have e3 : t 3 = .bool true := hk2 3 _ (hwt 3 (by kernel_rfl)) rfl
            have e11 : t 11 = .int .i64 (endV o) := hk2 11 _ (hwt 11 (by kernel_rfl)) rfl
            have e14 : t 14 = .int .i64 (tx.size : Int) := hk2 14 _ (hwt 14 (by kernel_rfl)) rfl
            replace hI := Lib.hid hI
            replace hk2 := Lib.hid hk2
            clear hwt
            refine wpOp_step rfl (fun K hK => ?_)
            go_simp
            exact hK _ _ ⟨_, by simp [updT, e3, e11, e14], hk2.out.at_ rfl, hI.out⟩
          · -- operation 16
            have e3 : t 3 = .bool true := hk2 3 _ (hwt 3 (by kernel_rfl)) rfl
            have e15 : t 15 = .bool (endV o == (tx.size : Int)) := hk2 15 _ (hwt 15 (by kernel_rfl)) rfl
            replace hI := Lib.hid hI
            replace hk2 := Lib.hid hk2
            clear hwt
            refine wpOp_step rfl (fun K hK => ?_)
            go_simp
            exact hK _ _ ⟨_, by simp [updT, e3, e15], hk2.out.at_ rfl, hI.out⟩
          · -- operation 17
            have e16 : t 16 = .bool (endV o == (tx.size : Int)) := hk2 16 _ (hwt 16 (by kernel_rfl)) rfl
            replace hI := Lib.hid hI
            replace hk2 := Lib.hid hk2
            clear hwt
            refine wpOp_step rfl (fun K hK => ?_)
            go_simp
            exact hK _ _ ⟨_, by simp [updT, e16], hk2.out.at_ rfl, hI.out⟩
        case fin =>
          intro f t W hall hk2 hI
          have e17 := hk2 17 _ (hall 17 (by omega)) rfl
          clear hk2 hall
          dsimp only
          rw [e17]
          go_wp2_with fail
          go_ret
          exact ⟨by rw [← hv.out]; rfl, bt hb0 hI⟩
  · rw [if_pos rfl]
    rw [hvd] at hV
    go_enter Tryz.func60, Tryz.ntmps60
    go_wp2_with fail
    refine (hV.out _).mono ?_
    rintro e w1 ⟨rfl, rfl⟩
    go_wp2_with fail
    refine (hR.out _).mono ?_
    rintro e w1 ⟨rfl, rfl⟩
    go_wp2_with fail
    go_ret
    exact ⟨rfl, hb0⟩
end Go.Proofs.YteefodibpjgicaaGreat

namespace Go.Proofs.YteefodibpjgicaaGreat
open Go.RowKit
def ShrPost (S : Nat → Prop) (l : List Nd) (w : World) (e : Ending) (w' : World) : Prop := ∃ v', e = .returned v' ∧ RepN (fun b => S b ∨ (w.heap.size ≤ b ∧ b < w'.heap.size)) w' v' l ∧ Below w.heap.size w w'
theorem ShrPost.of_row {S : Nat → Prop} {w w' : World} {v' : Value} {L : List NV} (hS : ∀ b, S b → b < w.heap.size) (hown : w'.ownsRow w.heap.size 41 5 v' L.length (cellsV L)) (hb : Below w.heap.size w w') (hL : ∀ b ∈ L, RepV S w b.x b.va b.vk) : RepN (fun b => S b ∨ (w.heap.size ≤ b ∧ b < w'.heap.size)) w' v' (L.map NV.x) :=
  ⟨cellsV L, by rw [List.length_map]; exact Row.own hown (fun g hg => Or.inr (hown.lt g hg)), RepC.of_nv (fun b hb' => ((hL b hb').below hS hb).mono (fun c hc => Or.inl hc))⟩
theorem fitV_snoc (q : Nd → Bool) (L : List NV) (b : NV) : ((L ++ [b]).filter fun b => q b.x) = if q b.x = true then (L.filter fun b => q b.x) ++ [b] else L.filter fun b => q b.x := by
  rw [List.filter_append]
  cases h : q b.x <;> simp [h]
theorem fitV_map (q : Nd → Bool) (L : List NV) : (L.filter fun b => q b.x).map NV.x = (L.map NV.x).filter q := by
  rw [List.filter_map]; rfl
set_option maxHeartbeats 4000000 in
set_option maxRecDepth 100000 in
theorem ref06fittingV (S : Nat → Prop) (v : Value) (p : ByteArray) (L : List NV) (w : World) (hS : ∀ b, S b → b < w.heap.size) (hr : Row S w 5 v L.length (cellsV L)) (hok : ∀ b ∈ L, b.ok ∧ b.x.text.size ≤ 268435456) (hl : L.length ≤ 1000000) (hp : p.size ≤ 268435456) :
    Calls Tryz.prog 59 #[.string p, v] w (ShPost (L.filter fun b => M6.fitsB p b.x) w) := by
  obtain ⟨a, cap, rfl⟩ := hr.slice
  obtain ⟨_, hlc, hcm⟩ := hr.len
  replace hok := Lib.hid hok
  obtain ⟨wo, rfl⟩ : ∃ wo : World, wo = w := ⟨_, rfl⟩
  go_enter Tryz.func59, Tryz.ntmps59
  go_wp2_with (fail)
  go_loopw [5, 6, 7] (fun u5 u6 _ wr => ∃ (i : Nat) (A : List NV), i ≤ L.length ∧ u6 = .int .i64 (i : Int) ∧ Hid (A = (L.take i).filter fun b => M6.fitsB p b.x) ∧ wr.ownsRow wo.heap.size 41 5 u5 A.length (cellsV A) ∧ Below wo.heap.size wo wr) (fun _ u6 _ _ => L.length - (intOf u6).toNat)
  case atStart => exact ⟨0, [], by omega, rfl, rfl, World.ownsRow_nil _ _ _ _, Below.refl _ _⟩
  case round =>
    obtain ⟨i, A, hi, rfl, hA, hown, hb⟩ := hrel
    have hz := hb.size
    have hAl : A.length ≤ 1000000 := by rw [hA.out]; have := List.length_filter_le (fun b => M6.fitsB p b.x) (L.take i); have := List.length_take_le i L; omega
    by_cases hlt : i < L.length
    · obtain ⟨b, off, rfl, hSb, c0, c1, c2, c3, c4⟩ := (hr.below hS hb).atV i hlt
      have hbl := hS b hSb
      have htk : L.take (i + 1) = L.take i ++ [L[i]] := List.take_succ_eq_append_getElem hlt
      have hA2 : Hid (((L.take (i + 1)).filter fun b => M6.fitsB p b.x) = if M6.fitsB p L[i].x = true then A ++ [L[i]] else A) := by show _ = _; rw [htk, fitV_snoc, hA.out]
      obtain ⟨hkx, hkt⟩ := hok.out _ (List.getElem_mem hlt)
      clear hA htk
      generalize L[i] = x at *
      obtain ⟨⟨k, n, ats, t, ks⟩, va, vk⟩ := x
      obtain ⟨⟨a1, e1, hva⟩, a2, e2, hvk⟩ := hkx
      simp only [Nd.kind, Nd.name, Nd.text, Nd.attrs, Nd.kids] at c0 c1 c2 c3 c4 hva hvk
      subst hva
      subst hvk
      have hF := fun W => ref06Fits p (.mk k n ats t ks) (.slice a1 ats.length e1) (.slice a2 ks.length e2) W ⟨_, _, _, rfl⟩ ⟨_, _, _, rfl⟩ hp hkt
      change ∀ W, Calls Tryz.prog 60 #[.string p, .agg #[.int .i64 k, .string n, .slice a1 ats.length e1, .string t, .slice a2 ks.length e2]] W (BoolB _ W) at hF
      obtain ⟨q, hq⟩ : ∃ q, M6.fitsB p (.mk k n ats t ks) = q := ⟨_, rfl⟩
      rw [hq] at hF hA2
      clear hq
      replace hF := Lib.hid hF
      have hI0 : (0 : Int) ≤ (i : Int) := by omega
      have hI1 : (i : Int) < (L.length : Int) := by omega
      go_wp2_with (fail)
      refine (hF.out _).mono ?_
      rintro e w2 ⟨rfl, hb2⟩
      have hb3 := hb.trans (hb2.mono hz)
      have hown2 := own_below3 hown hb2
      have hz3 := hb3.size
      have d0 := cell_of_below hb2 c0 (by omega)
      have d1 := cell_of_below hb2 c1 (by omega)
      have d2 := cell_of_below hb2 c2 (by omega)
      have d3 := cell_of_below hb2 c3 (by omega)
      have d4 := cell_of_below hb2 c4 (by omega)
      clear c0 c1 c2 c3 c4 hF hown hb
      cases q
      · rw [if_neg Bool.false_ne_true] at hA2
        go_wp2_with (fail)
        go_roundw
        case rel => exact ⟨i + 1, A, by omega, by go_num, Lib.hid hA2.out.symm, hown2, hb3⟩
        case measure => exact meas_nat hlt
      · rw [if_pos rfl] at hA2
        go_wp2_with (at_builtin; refine wpList_appK _ [.int .i64 k, .string n, .slice a1 ats.length e1, .string t, .slice a2 ks.length e2] 5 rfl _ _ 25 41 rfl wo.heap.size Tryz.underlying25 infoN rfl (by omega) _ A.length (cellsV A) rfl hown2 _ rfl rfl rfl (five_one _ _ _ _ _ _ _ _ _) (by omega) (by omega) (by omega) ?_; intro g cp w3 hown3 hgrow3 hat3)
        have hb4 := below_own hb3 hown2 hgrow3 hz3 (Nat.le_refl _)
        have hown4 : w3.ownsRow wo.heap.size 41 5 (.slice (some ⟨g, 0, none⟩) (A.length + 1) cp) (A ++ [(⟨.mk k n ats t ks, .slice a1 ats.length e1, .slice a2 ks.length e2⟩ : NV)]).length (cellsV (A ++ [(⟨.mk k n ats t ks, .slice a1 ats.length e1, .slice a2 ks.length e2⟩ : NV)])) := by
          rw [cellsV_snoc, List.length_append]; exact hown3
        clear hown3 hgrow3 hat3
        go_roundw
        case rel => exact ⟨i + 1, A ++ [(⟨.mk k n ats t ks, .slice a1 ats.length e1, .slice a2 ks.length e2⟩ : NV)], by omega, by go_num, Lib.hid hA2.out.symm, hown4, hb4⟩
        case measure => exact meas_nat hlt
    · obtain rfl : i = L.length := by omega
      rw [List.take_length] at hA
      go_wp2_with (fail)
      go_ret
      exact ⟨u5, rfl, by rw [← hA.out]; exact hown, hb⟩
theorem ref06fitting (S : Nat → Prop) (v : Value) (p : ByteArray) (l : List Nd) (w : World) (hS : ∀ b, S b → b < w.heap.size) (hr : RepN S w v l) (hf : FitN l) (hl : l.length ≤ 1000000) (hp : p.size ≤ 268435456) :
    Calls Tryz.prog 59 #[.string p, v] w (ShrPost S (l.filter (M6.fitsB p)) w) := by
  obtain ⟨xs, hrow, hrc⟩ := hr
  obtain ⟨L, rfl, rfl, hL⟩ := RepC.nv _ _ hrc
  rw [List.length_map] at hrow hl
  refine (ref06fittingV S v p L w hS hrow (fun b hb => ⟨(hL b hb).ok, (fitN_iff.1 hf b.x (List.mem_map_of_mem hb)).1.2.1⟩) hl hp).mono ?_
  rintro e w1 ⟨v1, rfl, hown, hb⟩
  refine ⟨v1, rfl, ?_, hb⟩
  rw [← fitV_map]
  exact ShrPost.of_row hS hown hb (fun b hb' => hL b (List.mem_filter.1 hb').1)
theorem ref03MergeS (S : Nat → Prop) (v : Value) (l : List Nd) (w : World) (hS : ∀ b, S b → b < w.heap.size) (hr : RepN S w v l) (hl : l.length ≤ 1000000) (ht : txtN l ≤ 1073741824) :
    Calls Tryz.prog 50 #[v] w (ShrPost S (M3.merge l) w) := by
  obtain ⟨xs, hrow, hrc⟩ := hr
  obtain ⟨L, rfl, rfl, hL⟩ := RepC.nv _ _ hrc
  rw [List.length_map] at hrow hl
  refine (ref03MergeV S v L w hS hrow (fun b hb => (hL b hb).ok) hl (by rw [txtV_map]; exact ht)).mono ?_
  rintro e w1 ⟨v1, rfl, hown, hb⟩
  refine ⟨v1, rfl, ?_, hb⟩
  rw [← mergeV_map]
  refine ShrPost.of_row hS hown hb ?_
  have key : ∀ (l out : List NV), (∀ b ∈ l, RepV S w b.x b.va b.vk) → (∀ b ∈ out, RepV S w b.x b.va b.vk) → ∀ b ∈ l.foldl pushV out, RepV S w b.x b.va b.vk := by
    intro l
    induction l with
    | nil => intro out _ ho; exact ho
    | cons x r ih =>
      intro out hl ho
      rw [List.foldl_cons]
      refine ih _ (fun z hz => hl z (by simp [hz])) ?_
      have hx := hl x (by simp)
      cases hb : bareV x
      · rcases List.eq_nil_or_concat out with rfl | ⟨o, y, rfl⟩
        · rw [pushV_nil hb]; simpa using hx
        · rw [List.concat_eq_append] at ho ⊢
          rw [pushV_snoc hb]
          have hy := ho y (by simp)
          split
          · intro z hz
            rcases List.mem_append.1 hz with hz | hz
            · exact ho z (by simp [hz])
            · simp at hz; subst hz
              exact ⟨by show Row _ _ _ _ (M3.withText y.x _).attrs.length (cellsA (M3.withText y.x _).attrs); rw [M3.withText_attrs]; exact hy.1, by show RepN _ _ _ (M3.withText y.x _).kids; rw [M3.withText_kids]; exact hy.2⟩
          · intro z hz
            rcases List.mem_append.1 hz with hz | hz
            · exact ho z hz
            · simp at hz; subst hz; exact hx
      · rw [pushV_bare hb]; exact ho
  exact key L [] hL (fun b h => by cases h)
end Go.Proofs.YteefodibpjgicaaGreat
