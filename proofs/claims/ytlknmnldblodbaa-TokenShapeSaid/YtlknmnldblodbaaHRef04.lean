/- A text over joined ones: Ref04. -/
import Derived.BigQuiet
import Derived.Test.YtlknmnldblodbaaH1
import Derived.Test.YtlknmnldblodbaaH2
import Derived.Test.YtlknmnldblodbaaH3
import Derived.Test.YtlknmnldblodbaaH4
import Derived.Test.YtlknmnldblodbaaH5
import Derived.Test.YtlknmnldblodbaaH6
import Derived.Test.YtlknmnldblodbaaHMath5g
import Derived.Test.YtlknmnldblodbaaHWr2
/- The reference of layer 4: an element's beginning, a node, texts. -/
namespace Go.Proofs.Ytlknmnldblodbaa
open Go.RowKit

theorem wr_meas4 {n k : Nat} (h : k < n) : n - (intOf (.int .i64 ((k : Int) + 1))).toNat < n - (intOf (.int .i64 (k : Int))).toNat := by
  simp [intOf]; omega

def TxtPost (out : List UInt8) (w : World) (e : Ending) (w' : World) : Prop := e = .returned (.string ⟨out.toArray⟩) ∧ Below w.heap.size w w'
theorem cat_two (a b : List UInt8) : (⟨a.toArray⟩ : ByteArray) ++ (⟨b.toArray⟩ : ByteArray) = ⟨(a ++ b).toArray⟩ := by rw [cat_mk]

set_option maxHeartbeats 4000000 in
set_option maxRecDepth 100000 in
theorem ref04Open (S : Nat → Prop) (x : Nd) (va vk : Value) (w : World) (hS : ∀ b, S b → b < w.heap.size) (hx : RepV S w x va vk) (hf : Fit1 x) :
    Calls Try.prog 78 #[x.val va vk] w (TxtPost (M4.openB x) w) := by
  obtain ⟨a1, e1, rfl⟩ := hx.at_.slice
  obtain ⟨a2, e2, rfl⟩ := hx.kids.slice
  obtain ⟨_, hlc, hcm⟩ := hx.at_.len
  have b0 : Below w.heap.size w (w.alloc (.cells (x.cells (.slice a1 x.attrs.length e1) (.slice a2 x.kids.length e2)).toArray 40)) := (Below.refl _ w).alloc (Nat.le_refl _) _
  have hz0 : (w.alloc (.cells (x.cells (.slice a1 x.attrs.length e1) (.slice a2 x.kids.length e2)).toArray 40)).heap.size = w.heap.size + 1 := by simp
  have hbx := Box.new w 40 (x.cells (.slice a1 x.attrs.length e1) (.slice a2 x.kids.length e2))
  by_cases k1 : x.kind = 1
  · have e0 : M4.openB x = M4.headB x.name x.attrs := by unfold M4.openB; rw [if_pos k1]
    rw [e0]
    clear e0
    have k1b : (x.kind != 1) = false := by simpa using k1
    replace k1 := Lib.hid k1
    have hat := Lib.hid (fun (W : World) (hW : Below w.heap.size w W) => hx.at_.keep (w' := W) (fun b h => hW.block b (hS b h)))
    have hfa := Lib.hid hf.2.2.1
    have hln := hf.1
    have hlw := hf.2.2.2
    have hal := M4.attsB_len x.attrs hf.2.2.1
    clear hx hf
    cases x with | mk k n ats t ks =>
    simp only [Nd.kind, Nd.name, Nd.text, Nd.attrs, Nd.kids, Nd.val] at *
    replace hz0 := Lib.hid hz0
    go_enter Try.func78, Try.ntmps78
    go_wp2_with fail
    go_loopw [3, 4] (fun u3 u4 wr => ∃ (i : Nat) (o : ByteArray), i ≤ ats.length ∧ u4 = .int .i64 (i : Int) ∧ u3 = .string o ∧ o.data.toList = 60 :: n.data.toList ++ M4.attsB (ats.take i) ∧ Below (w.heap.size + 1) (w.alloc (.cells #[.int .i64 k, .string n, .slice a1 ats.length e1, .string t, .slice a2 ks.length e2] 40)) wr) (fun _ u4 _ => ats.length - (intOf u4).toNat)
    case atStart => exact ⟨0, _, by omega, rfl, rfl, by rw [List.take_zero]; simp [M4.attsB], Below.refl _ _⟩
    case round =>
      obtain ⟨i, o, hi, rfl, rfl, ho, hb⟩ := hrel
      have hbx1 := hbx.below hb (by omega)
      have d2 := hbx1.cell (i := 2) rfl
      have hbw : Below w.heap.size w wr := b0.trans (hb.mono (by omega))
      have hpre := M4.attsB_prefix ats i
      have hos : o.size = 1 + n.size + (M4.attsB (ats.take i)).length := by
        show o.data.toList.length = _
        rw [ho]; simp; show n.size + _ + 1 = _; omega
      by_cases hlt : i < ats.length
      · obtain ⟨b, off, rfl, hSb, q0, q1⟩ := (hat.out wr hbw).atA i hlt
        have hbl := hS b hSb
        obtain ⟨hfn, hfv⟩ := hfa.out _ (List.getElem_mem hlt)
        have htk := M4.attsB_take ats i hlt
        have hEs := Lib.hid (fun W => ref02Escape ats[i].value true W (by omega))
        have hel := M2.escape_len true ats[i].value.data.toList
        have hel2 : ats[i].value.data.toList.length = ats[i].value.size := rfl
        have fin : Hid ((o ++ ⟨#[32]⟩ ++ ats[i].name ++ ⟨#[61, 34]⟩ ++ ⟨(M2.escape true ats[i].value.data.toList).toArray⟩ ++ ⟨#[34]⟩ : ByteArray).data.toList = 60 :: n.data.toList ++ M4.attsB (ats.take (i + 1))) := by
          show _ = _
          rw [htk, M4.attB]
          simp [ho]
        generalize hA2 : M4.attsB (ats.take (i + 1)) = A2 at *
        replace hA2 := Lib.hid hA2
        generalize ats[i].name = nm at *
        generalize ats[i].value = vl at *
        replace ho := Lib.hid ho
        replace htk := Lib.hid htk
        have hes : (⟨(M2.escape true vl.data.toList).toArray⟩ : ByteArray).size ≤ 1610612736 := by show (M2.escape true vl.data.toList).length ≤ _; omega
        generalize (⟨(M2.escape true vl.data.toList).toArray⟩ : ByteArray) = ev at *
        clear hel hel2
        have hI0 : (i : Int) < (ats.length : Int) := by omega
        have hI1 : (0 : Int) ≤ (i : Int) := by omega
        go_wp2_with fail
        go_quiet ((go_at_call 77; exact Calls.quiet_of_same (hEs.out _)))
        go_wp2_with fail
        go_roundw
        case rel => exact ⟨i + 1, _, by omega, by go_num, rfl, by rw [hA2.out]; exact fin.out, below_drewN hb _⟩
        case measure => exact wr_meas4 hlt
      · obtain rfl : i = ats.length := by omega
        rw [List.take_length] at ho hos
        have fin : Hid ((o ++ ⟨#[62]⟩ : ByteArray) = ⟨(M4.headB n ats).toArray⟩) := by
          show _ = _
          apply ByteArray.ext
          apply Array.ext'
          simp [ho, M4.headB]
        replace ho := Lib.hid ho
        go_wp2_with fail
        go_ret
        exact ⟨by rw [fin.out]; rfl, hbw⟩
  · have e0 : M4.openB x = [] := by unfold M4.openB; rw [if_neg k1]
    rw [e0]
    have k1b : (x.kind != 1) = true := by simpa using k1
    replace k1 := Lib.hid k1
    clear e0
    replace b0 := Lib.hid b0
    go_enter Try.func78, Try.ntmps78
    go_wp2_with fail
    go_ret
    exact ⟨rfl, b0.out⟩

theorem weight_mem' {x : Nd} {l : List Nd} (h : x ∈ l) : 1 + M3.weight x.kids ≤ M3.weight l := by
  have := weight_mem h
  omega
theorem str_two (a : List UInt8) (o : ByteArray) (h : o.data.toList = a) : o = ⟨a.toArray⟩ := by
  subst h
  cases o
  simp
set_option maxHeartbeats 8000000 in
set_option maxRecDepth 100000 in
theorem ref04one (wt : Nat) : ∀ (S : Nat → Prop) (x : Nd) (va vk : Value) (raw : Bool) (w : World), 1 + M3.weight x.kids < wt → (∀ b, S b → b < w.heap.size) → RepV S w x va vk → Fit1 x → FitN x.kids → (M4.oneB raw x).length ≤ 70368744177664 →
    Calls Try.prog 52 #[x.val va vk, .bool raw] w (TxtPost (M4.oneB raw x) w) := by
  induction wt with
  | zero => intro S x va vk raw w h; omega
  | succ wt ih =>
  intro S x va vk raw w hwt hS hx hf hfk hl
  have hOp := Lib.hid (fun W (hW : Below w.heap.size w W) => ref04Open S x va vk W (fun b h => Nat.lt_of_lt_of_le (hS b h) hW.size) (hx.keep (fun b h => hW.block b (hS b h))) hf)
  obtain ⟨a1, e1, rfl⟩ := hx.at_.slice
  obtain ⟨a2, e2, rfl⟩ := hx.kids.slice
  have b0 : Below w.heap.size w (w.alloc (.cells (x.cells (.slice a1 x.attrs.length e1) (.slice a2 x.kids.length e2)).toArray 40)) := (Below.refl _ w).alloc (Nat.le_refl _) _
  have hz0 : (w.alloc (.cells (x.cells (.slice a1 x.attrs.length e1) (.slice a2 x.kids.length e2)).toArray 40)).heap.size = w.heap.size + 1 := by simp
  have hbx := Box.new w 40 (x.cells (.slice a1 x.attrs.length e1) (.slice a2 x.kids.length e2))
  have hts := hf.2.1
  have hns := hf.1
  have hlw := hf.2.2.2
  replace ih := Lib.hid ih
  by_cases k3 : x.kind = 3
  · have e0 := M4.oneB_3 (raw := raw) k3
    have fin : Hid ((⟨#[60, 33, 45, 45]⟩ ++ x.text ++ ⟨#[45, 45, 62]⟩ : ByteArray) = ⟨(M4.oneB raw x).toArray⟩) := by
      refine str_two _ _ ?_
      rw [e0, M4.commB]; simp
    have k3b : (x.kind == 3) = true := by simpa using k3
    replace k3 := Lib.hid k3
    replace b0 := Lib.hid b0
    clear hOp e0 hbx hx hf
    go_enter Try.func52, Try.ntmps52
    go_wp2_with fail
    go_ret
    exact ⟨by rw [fin.out]; rfl, b0.out⟩
  have k3b : (x.kind == 3) = false := by simpa using k3
  by_cases k2 : x.kind = 2
  · have e0 := M4.oneB_2 (raw := raw) k2
    have k2b : (x.kind == 2) = true := by simpa using k2
    have hEs := Lib.hid (fun W => ref02Escape x.text false W (by omega))
    replace k2 := Lib.hid k2
    replace b0 := Lib.hid b0
    replace e0 := Lib.hid e0
    clear hOp hbx hx hf k3
    cases raw
    · go_enter Try.func52, Try.ntmps52
      go_wp2_with fail
      refine (hEs.out _).mono ?_
      rintro e w1 ⟨rfl, rfl⟩
      go_wp2_with fail
      go_ret
      exact ⟨by rw [e0.out]; rfl, b0.out⟩
    · go_enter Try.func52, Try.ntmps52
      go_wp2_with fail
      go_ret
      exact ⟨by rw [e0.out, show M4.charsB true x.text = x.text.data.toList from rfl, ← str_two _ x.text rfl]; rfl, b0.out⟩
  have k2b : (x.kind == 2) = false := by simpa using k2
  by_cases k1 : x.kind = 1
  · have e0 := M4.oneB_1 (raw := raw) k1
    have k1b : (x.kind != 1) = false := by simpa using k1
    have eop : M4.openB x = M4.headB x.name x.attrs := by unfold M4.openB; rw [if_pos k1]
    rw [eop] at hOp
    rw [e0] at hl ⊢
    have hkd := hx.kids
    clear e0 eop hf hx k2 k3
    replace k1 := Lib.hid k1
    cases x with | mk k n ats t ks =>
    simp only [Nd.kind, Nd.name, Nd.text, Nd.attrs, Nd.kids, Nd.val] at hwt hkd hfk hl hOp b0 hbx hz0 hlw hns hts k1b k2b k3b ⊢
    go_enter Try.func52, Try.ntmps52
    go_wp2_with fail
    refine (ref03Void _ _).mono ?_
    rintro e w1 ⟨rfl, rfl⟩
    cases hvd : M3.voidB n.data.toList
    · rw [hvd, M4.innerB_no] at hl
      go_wp2_with fail
      refine (ref03Raw _ _).mono ?_
      rintro e w1 ⟨rfl, rfl⟩
      have hOp2 := Lib.hid (hOp.out _ b0)
      generalize hrw : M3.rawB n.data.toList = rw_ at *
      replace hrw := Lib.hid hrw
      clear hOp
      go_wp2_with fail
      refine hOp2.out.mono ?_
      rintro e w1 ⟨rfl, hb1⟩
      have hbx1 := hbx.below hb1 (by omega)
      clear hOp2
      have hz1 := hb1.size
      have hbw1 := bt b0 hb1
      have h0 : Hid ((⟨(M4.headB n ats).toArray⟩ : ByteArray).data.toList = M4.headB n ats ++ M4.textB rw_ (ks.take 0)) := by show _ = _; rw [List.take_zero, M4.textB_nil]; simp
      go_wp2_with fail
      go_loopw [7, 8] (fun u7 u8 wr => ∃ (i : Nat) (o : ByteArray), i ≤ ks.length ∧ u8 = .int .i64 (i : Int) ∧ u7 = .string o ∧ Hid (o.data.toList = M4.headB n ats ++ M4.textB rw_ (ks.take i)) ∧ Below w1.heap.size w1 wr) (fun _ u8 _ => ks.length - (intOf u8).toNat)
      case atStart => exact ⟨0, _, by omega, rfl, rfl, h0, Below.refl _ _⟩
      case round =>
        obtain ⟨i, o, hi, rfl, rfl, ho, hb⟩ := hrel
        have hbx2 := hbx1.below hb hbx1.lt
        have d4 := hbx2.cell (i := 4) rfl
        have hbw : Below w.heap.size w wr := bt hbw1 hb
        obtain ⟨_, hlc, hcm⟩ := hkd.len
        have hos : o.size = (M4.headB n ats).length + (M4.textB rw_ (ks.take i)).length := by
          show o.data.toList.length = _
          rw [ho.out, List.length_append]
        by_cases hlt : i < ks.length
        · obtain ⟨b, off, va, vk, rfl, hSb, c0, c1, c2, c3, c4, hrv⟩ := hkd.look hS hbw i hlt
          have hbl := hS b hSb
          have hfx := fitN_mem hfk (List.getElem_mem hlt)
          have hwk := weight_mem' (List.getElem_mem hlt)
          have hpre := M4.textB_prefix rw_ ks (i + 1)
          have htk := M4.textB_take rw_ ks i hlt
          have hpre2 : (M4.textB rw_ (ks.take i)).length + (M4.oneB rw_ ks[i]).length ≤ (M4.textB rw_ ks).length := by rw [htk, List.length_append] at hpre; exact hpre
          rw [List.length_append, List.length_append] at hl
          have hih := Lib.hid (ih.out S ks[i] va vk rw_ wr (by omega) (fun b h => Nat.lt_of_lt_of_le (hS b h) hbw.size) (hrv.keep (fun b h => hbw.block b (hS b h))) hfx.1 hfx.2 (by omega))
          have fin : Hid ((o ++ ⟨(M4.oneB rw_ ks[i]).toArray⟩ : ByteArray).data.toList = M4.headB n ats ++ M4.textB rw_ (ks.take (i + 1))) := by
            show _ = _
            rw [htk]; simp [ho.out]
          have hsz2 : (⟨(M4.oneB rw_ ks[i]).toArray⟩ : ByteArray).size = (M4.oneB rw_ ks[i]).length := rfl
          have hsm : o.size + (⟨(M4.oneB rw_ ks[i]).toArray⟩ : ByteArray).size ≤ 70368744177664 := by rw [hsz2]; omega
          clear hpre htk hpre2 hsz2
          generalize hA2 : M4.textB rw_ (ks.take (i + 1)) = A2 at *
          replace hA2 := Lib.hid hA2
          replace hos := Lib.hid hos
          generalize ks[i] = y at *
          obtain ⟨a3, e3, rfl⟩ := hrv.at_.slice
          obtain ⟨a4, e4, rfl⟩ := hrv.kids.slice
          generalize M4.oneB rw_ y = ev at *
          clear hrv
          have hI0 : (i : Int) < (ks.length : Int) := by omega
          go_wp2_with fail
          refine hih.out.mono ?_
          rintro e w2 ⟨rfl, hb2⟩
          have hb3 := bt hb (hb2.mono (Nat.le_refl _))
          clear hih
          generalize (⟨ev.toArray⟩ : ByteArray) = eb at *
          go_wp2_with fail
          go_roundw
          case rel => exact ⟨i + 1, _, by omega, by go_num, rfl, by rw [hA2.out]; exact fin, hb3⟩
          case measure => exact wr_meas4 hlt
        · obtain rfl : i = ks.length := by omega
          rw [List.take_length] at ho hos
          have hel : M4.endB n = [60, 47] ++ (n.data.toList ++ [62]) := by unfold M4.endB; rw [hvd]; rfl
          have fin : Hid ((o ++ ⟨#[60, 47]⟩ ++ n ++ ⟨#[62]⟩ : ByteArray) = ⟨(M4.headB n ats ++ (M4.textB rw_ ks ++ M4.endB n)).toArray⟩) := by
            refine str_two _ _ ?_
            rw [hel]; simp [ho.out]
          have d1 : wr.cell? ⟨w.heap.size, 1, none⟩ = some (.string n) := hbx2.cell (i := 1) rfl
          rw [List.length_append, List.length_append] at hl
          have hos2 : o.size ≤ 70368744177664 := by omega
          replace hel := Lib.hid hel
          replace hos := Lib.hid hos
          go_wp2_with fail
          go_ret
          exact ⟨by rw [M4.innerB_no, ← fin.out]; rfl, hbw⟩
    · rw [hvd, M4.innerB_yes] at hl
      have hOp2 := Lib.hid (hOp.out _ b0)
      have e3 : M4.endB n = [] := by unfold M4.endB; rw [hvd]; rfl
      go_wp2_with fail
      refine hOp2.out.mono ?_
      rintro e w1 ⟨rfl, hb1⟩
      have hbb := Lib.hid (bt b0 hb1)
      go_wp2_with fail
      go_ret
      exact ⟨by rw [hvd, M4.innerB_yes, e3]; simp, hbb.out⟩
  · have e0 := M4.oneB_4 (raw := raw) k1 k2 k3
    rw [e0]
    have k1b : (x.kind != 1) = true := by simpa using k1
    replace k1 := Lib.hid k1
    replace b0 := Lib.hid b0
    clear e0 hOp hbx hx hf k2 k3
    go_enter Try.func52, Try.ntmps52
    go_wp2_with fail
    go_ret
    exact ⟨rfl, b0.out⟩

set_option maxHeartbeats 4000000 in
set_option maxRecDepth 100000 in
theorem ref04Text (S : Nat → Prop) (v : Value) (l : List Nd) (w : World) (hS : ∀ b, S b → b < w.heap.size) (hr : RepN S w v l) (hfit : FitN l) (hl : (M4.textB false l).length ≤ 70368744177664) :
    Calls Try.prog 25 #[v] w (TxtPost (M4.textB false l) w) := by
  obtain ⟨a, cap, rfl⟩ := hr.slice
  obtain ⟨_, hlc, hcm⟩ := hr.len
  replace hfit := Lib.hid hfit
  have h0 : Hid ((⟨#[]⟩ : ByteArray).data.toList = M4.textB false (l.take 0)) := by show _ = _; rw [List.take_zero, M4.textB_nil]
  go_enter Try.func25, Try.ntmps25
  go_wp2_with fail
  go_loopw [3, 4] (fun u3 u4 wr => ∃ (i : Nat) (o : ByteArray), i ≤ l.length ∧ u4 = .int .i64 (i : Int) ∧ u3 = .string o ∧ Hid (o.data.toList = M4.textB false (l.take i)) ∧ Below w.heap.size w wr) (fun _ u4 _ => l.length - (intOf u4).toNat)
  case atStart => exact ⟨0, _, by omega, rfl, rfl, h0, Below.refl _ _⟩
  case round =>
    obtain ⟨i, o, hi, rfl, rfl, ho, hb⟩ := hrel
    have hos : o.size = (M4.textB false (l.take i)).length := by
      show o.data.toList.length = _
      rw [ho.out]
    by_cases hlt : i < l.length
    · obtain ⟨b, off, va, vk, rfl, hSb, c0, c1, c2, c3, c4, hrv⟩ := hr.look hS hb i hlt
      have hbl := hS b hSb
      have hfx := fitN_mem hfit.out (List.getElem_mem hlt)
      have hpre := M4.textB_prefix false l (i + 1)
      have htk := M4.textB_take false l i hlt
      have hpre2 : (M4.textB false (l.take i)).length + (M4.oneB false l[i]).length ≤ (M4.textB false l).length := by rw [htk, List.length_append] at hpre; exact hpre
      have hih := Lib.hid (ref04one (1 + M3.weight l[i].kids + 1) S l[i] va vk false wr (by omega) (fun b h => Nat.lt_of_lt_of_le (hS b h) hb.size) (hrv.keep (fun b h => hb.block b (hS b h))) hfx.1 hfx.2 (by omega))
      have fin : Hid ((o ++ ⟨(M4.oneB false l[i]).toArray⟩ : ByteArray).data.toList = M4.textB false (l.take (i + 1))) := by
        show _ = _
        rw [htk]; simp [ho.out]
      have hsz2 : (⟨(M4.oneB false l[i]).toArray⟩ : ByteArray).size = (M4.oneB false l[i]).length := rfl
      have hsm : o.size + (⟨(M4.oneB false l[i]).toArray⟩ : ByteArray).size ≤ 70368744177664 := by rw [hsz2]; omega
      clear hpre htk hpre2 hsz2
      generalize hA2 : M4.textB false (l.take (i + 1)) = A2 at *
      replace hA2 := Lib.hid hA2
      replace hos := Lib.hid hos
      generalize l[i] = y at *
      obtain ⟨a3, e3, rfl⟩ := hrv.at_.slice
      obtain ⟨a4, e4, rfl⟩ := hrv.kids.slice
      generalize M4.oneB false y = ev at *
      clear hrv
      have hI0 : (i : Int) < (l.length : Int) := by omega
      go_wp2_with fail
      refine hih.out.mono ?_
      rintro e w2 ⟨rfl, hb2⟩
      have hb3 := bt hb hb2
      clear hih
      generalize (⟨ev.toArray⟩ : ByteArray) = eb at *
      go_wp2_with fail
      go_roundw
      case rel => exact ⟨i + 1, _, by omega, by go_num, rfl, by rw [hA2.out]; exact fin, hb3⟩
      case measure => exact wr_meas4 hlt
    · obtain rfl : i = l.length := by omega
      rw [List.take_length] at ho
      have fin : Hid (o = ⟨(M4.textB false l).toArray⟩) := str_two _ _ ho.out
      go_wp2_with fail
      go_ret
      exact ⟨by rw [← fin.out]; rfl, hb⟩


end Go.Proofs.Ytlknmnldblodbaa

