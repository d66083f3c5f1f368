/- Texts joined: Mod3, Ref06c, Law06, Law06k, Law06f, Sub, Law06p, Srt, Law06c, Math6b, Ref06d, Ref06e, Law06s. -/
import Derived.Test.YtbnfaijkmbgpmaaRows
import Derived.Shelf.SlIter.Nil
import Derived.Shelf.SortM.Plain
import Derived.Shelf.SortM.SortNone
import Derived.Test.YtbnfaijkmbgpmaaH1
import Derived.Test.YtbnfaijkmbgpmaaH2
import Derived.Test.YtbnfaijkmbgpmaaH3
import Derived.Test.YtbnfaijkmbgpmaaH4
import Derived.Test.YtbnfaijkmbgpmaaH5
import Derived.Test.YtbnfaijkmbgpmaaH6
/- Package model: which nodes are stable. -/
namespace Go.Proofs.Ytbnfaijkmbgpmaa
open Go.RowKit

/-- Nodes that last in that parent, and all in them in theirs. -/
def lasB (p : ByteArray) (l : List Nd) : Bool := l.all (M6.fitsB p) && M6.allB l

theorem lasB_nil (p : ByteArray) : lasB p [] = true := by unfold lasB; rw [M6.allB_nil]; rfl

theorem lasB_cons (p : ByteArray) (x : Nd) (r : List Nd) : lasB p (x :: r) = ((lastsB p x && lasB x.name x.kids) && lasB p r) := by
  unfold lasB lastsB
  rw [M6.allB_cons, List.all_cons]
  unfold M6.oneS
  cases M6.remB x <;> cases M6.fitsB p x <;> cases x.kids.all (M6.fitsB x.name) <;> cases M6.allB x.kids <;> cases r.all (M6.fitsB p) <;> rfl

theorem lasB_drop (p : ByteArray) (l : List Nd) (i : Nat) (h : i < l.length) : lasB p (l.drop i) = ((lastsB p l[i] && lasB l[i].name l[i].kids) && lasB p (l.drop (i + 1))) := by
  rw [List.drop_eq_getElem_cons h, lasB_cons]

set_option maxHeartbeats 4000000 in
set_option maxRecDepth 100000 in
theorem modLasting (wt : Nat) : ∀ (S : Nat → Prop) (v : Value) (p : ByteArray) (l : List Nd) (w : World), M3.weight l < wt → FitN l → p.size ≤ 268435456 → Glo w → (∀ b, S b → b < w.heap.size) → RepN S w v l →
    Calls Try.prog 37 #[.string p, v] w (BoolB (lasB p l) w) := by
  induction wt with
  | zero => intro S v p l w h; omega
  | succ wt ih =>
  intro S v p l w hwt hfit hp hg hS hr
  obtain ⟨a, cap, rfl⟩ := hr.slice
  obtain ⟨_, hlc, hcm⟩ := hr.len
  replace ih := Lib.hid ih
  have h0 : Hid (lasB p l = lasB p (l.drop 0)) := rfl
  replace hfit := Lib.hid hfit
  replace hg := Lib.hid hg
  obtain ⟨wo, rfl⟩ : ∃ wo : World, wo = w := ⟨_, rfl⟩
  go_enter Try.func37, Try.ntmps37
  go_wp2_with fail
  go_loopw [6, 9] (fun _ u9 wr => ∃ i : Nat, i ≤ l.length ∧ u9 = .int .i64 (i : Int) ∧ Hid (lasB p l = lasB p (l.drop i)) ∧ Below wo.heap.size wo wr) (fun _ u9 _ => l.length - (intOf u9).toNat)
  case atStart => exact ⟨0, by omega, rfl, h0, Below.refl _ _⟩
  case round =>
    obtain ⟨i, hi, rfl, hv, hb⟩ := hrel
    have hz := hb.size
    by_cases hlt : i < l.length
    · have hr1 := hr.below hS hb
      obtain ⟨b, off, va, vk, rfl, hSb, c0, c1, c2, c3, c4, hrv⟩ := hr1.at_ i hlt
      have hbl := hS b hSb
      have hmd := hv.out.trans (lasB_drop p l i hlt)
      obtain ⟨hf1, hf2⟩ := fitN_iff.1 hfit.out _ (List.getElem_mem hlt)
      have hwk := weight_mem (List.getElem_mem hlt)
      generalize l[i] = x at *
      obtain ⟨a1, e1, rfl⟩ := hrv.at_.slice
      obtain ⟨a2, e2, rfl⟩ := hrv.kids.slice
      have hL := Lib.hid (fun W hW => modLasts p x (.slice a1 x.attrs.length e1) (.slice a2 x.kids.length e2) W hW ⟨_, _, _, rfl⟩ ⟨_, _, _, rfl⟩ hp hf1.2.1)
      have hih := Lib.hid (fun W (hg : Glo W) (hW : Below wr.heap.size wr W) => ih.out S (.slice a2 x.kids.length e2) x.name x.kids W (by omega) hf2 hf1.1 hg (fun b h => by have := hS b h; have := hW.size; omega) (RepN.below (w := wr) (B := wr.heap.size) hrv.kids (fun b h => by have := hS b h; omega) hW))
      clear hv hr1 hrv
      replace hmd := Lib.hid hmd
      have bx := Box.new wr 32 (x.cells (.slice a1 x.attrs.length e1) (.slice a2 x.kids.length e2))
      have hbx : Below wr.heap.size wr (wr.alloc (.cells (x.cells (.slice a1 x.attrs.length e1) (.slice a2 x.kids.length e2)).toArray 32)) := (Below.refl _ wr).alloc (Nat.le_refl _) _
      have hg1 := Lib.hid ((hg.out.below hb (Nat.le_refl _)).below hbx (Nat.le_refl _))
      go_wp2_with fail
      refine (hL.out _ hg1.out).mono ?_
      rintro e w2 ⟨rfl, hb2⟩
      have hbw2 := bt hbx hb2
      have bx1 := bx.below hb2 (by simp)
      have p1 := bx1.cell (i := 1) rfl
      have p4 := bx1.cell (i := 4) rfl
      have hg2 := Lib.hid (hg1.out.below hb2 (Nat.le_refl _))
      clear hL bx bx1
      generalize lastsB p x = q at *
      cases q
      · rw [Bool.false_and, Bool.false_and] at hmd
        go_wp2_with fail
        go_ret
        exact ⟨by rw [hmd.out]; rfl, bt hb hbw2⟩
      · have hk := Lib.hid (hih.out _ hg2.out hbw2)
        clear hih
        go_wp2_with fail
        refine hk.out.mono ?_
        rintro e w3 ⟨rfl, hb3⟩
        generalize lasB x.name x.kids = q at *
        cases q
        · rw [Bool.and_false, Bool.false_and] at hmd
          go_wp2_with fail
          go_ret
          exact ⟨by rw [hmd.out]; rfl, bt hb (bt hbw2 hb3)⟩
        · rw [Bool.and_true, Bool.true_and] at hmd
          go_wp2_with fail
          go_roundw
          case rel => exact ⟨i + 1, by omega, by go_num, hmd, bt hb (bt hbw2 hb3)⟩
          case measure => exact meas_nat hlt
    · obtain rfl : i = l.length := by omega
      have hd := hv.out
      rw [List.drop_length, lasB_nil] at hd
      replace hd := Lib.hid hd
      clear hv
      go_wp2_with fail
      go_ret
      exact ⟨by rw [hd.out]; rfl, hb⟩

theorem fits_outside (x : Nd) : M6.fitsB ⟨#[]⟩ x = true := by
  unfold M6.fitsB
  rw [show M3.voidB (⟨#[]⟩ : ByteArray).data.toList = false by decide, show M3.rawB (⟨#[]⟩ : ByteArray).data.toList = false by decide, if_neg Bool.false_ne_true, if_neg Bool.false_ne_true]
  have : M6.closesB (⟨#[]⟩ : ByteArray).data.toList x.name.data.toList = false := rfl
  rw [this, Bool.and_false]
  rfl

theorem las_outside (l : List Nd) : lasB ⟨#[]⟩ l = M6.allB l := by
  unfold lasB
  rw [List.all_eq_true.2 (fun x _ => fits_outside x), Bool.true_and]

set_option maxHeartbeats 1000000 in
theorem modStable (S : Nat → Prop) (v : Value) (l : List Nd) (w : World) (hf : FitN l) (hg : Glo w) (hS : ∀ b, S b → b < w.heap.size) (hr : RepN S w v l) :
    Calls Try.prog 19 #[v] w (BoolB (M6.stableB l) w) := by
  have hM := Lib.hid (domMay S v l w hS hr hf)
  have hL := Lib.hid (fun W hW (hb : Below w.heap.size w W) => modLasting (M3.weight l + 1) S v ⟨#[]⟩ l W (by omega) hf (by decide) hW (fun b h => Nat.lt_of_lt_of_le (hS b h) hb.size) (hr.below hS hb))
  rw [las_outside] at hL
  unfold M6.stableB
  obtain ⟨a, cap, rfl⟩ := hr.slice
  clear hr
  replace hg := Lib.hid hg
  generalize M6.allB l = q at *
  obtain ⟨wo, rfl⟩ : ∃ wo : World, wo = w := ⟨_, rfl⟩
  go_enter Try.func19, Try.ntmps19
  go_wp2_with fail
  refine hM.out.mono ?_
  rintro e w1 ⟨rfl, hb1⟩
  have hL1 := Lib.hid (hL.out w1 (hg.out.below hb1 (Nat.le_refl _)) hb1)
  clear hL hM
  generalize M3.mayE false l = m at *
  cases hm : (m == 0)
  · go_wp2_with fail
    go_ret
    exact ⟨by rw [show decide (m = 0) = false from hm]; rfl, hb1⟩
  · go_wp2_with fail
    refine hL1.out.mono ?_
    rintro e w2 ⟨rfl, hb2⟩
    go_wp2_with fail
    go_ret
    exact ⟨by rw [show decide (m = 0) = true from hm]; rfl, bt hb1 hb2⟩
end Go.Proofs.Ytbnfaijkmbgpmaa

/- Reference 6: which nodes are stable. -/
namespace Go.Proofs.Ytbnfaijkmbgpmaa
open Go.RowKit

theorem allB_drop (l : List Nd) (i : Nat) (h : i < l.length) : M6.allB (l.drop i) = (M6.oneS l[i] && M6.allB (l.drop (i + 1))) := by
  rw [List.drop_eq_getElem_cons h, M6.allB_cons]

theorem all_drop (q : Nd → Bool) (l : List Nd) (i : Nat) (h : i < l.length) : (l.drop i).all q = (q l[i] && (l.drop (i + 1)).all q) := by
  rw [List.drop_eq_getElem_cons h, List.all_cons]

set_option maxHeartbeats 8000000 in
set_option maxRecDepth 100000 in
theorem ref06all (wt : Nat) : ∀ (S : Nat → Prop) (v : Value) (l : List Nd) (w : World), M3.weight l < wt → FitN l → (∀ b, S b → b < w.heap.size) → RepN S w v l →
    Calls Try.prog 39 #[v] w (BoolB (M6.allB l) w) := by
  induction wt with
  | zero => intro S v l w h; omega
  | succ wt ih =>
  intro S v l w hwt hfit hS hr
  obtain ⟨a, cap, rfl⟩ := hr.slice
  obtain ⟨_, hlc, hcm⟩ := hr.len
  replace ih := Lib.hid ih
  have h0 : Hid (M6.allB l = M6.allB (l.drop 0)) := rfl
  replace hfit := Lib.hid hfit
  obtain ⟨wo, rfl⟩ : ∃ wo : World, wo = w := ⟨_, rfl⟩
  go_enter Try.func39, Try.ntmps39
  go_wp2_with fail
  go_loopw [3, 4, 5, 6] (fun u3 _ _ _ wr => ∃ i : Nat, i ≤ l.length ∧ u3 = .int .i64 (i : Int) ∧ Hid (M6.allB l = M6.allB (l.drop i)) ∧ Below wo.heap.size wo wr) (fun u3 _ _ _ _ => l.length - (intOf u3).toNat)
  case atStart => exact ⟨0, by omega, rfl, h0, Below.refl _ _⟩
  case round =>
    obtain ⟨i, hi, rfl, hv, hb⟩ := hrel
    have hz := hb.size
    by_cases hlt : i < l.length
    · have hr1 := hr.below hS hb
      obtain ⟨b, off, va, vk, rfl, hSb, c0, c1, c2, c3, c4, hrv⟩ := hr1.at_ i hlt
      have hbl := hS b hSb
      have hmd := hv.out.trans (allB_drop l i hlt)
      obtain ⟨hf1, hf2⟩ := fitN_iff.1 hfit.out _ (List.getElem_mem hlt)
      have hwk := weight_mem (List.getElem_mem hlt)
      generalize l[i] = x at *
      obtain ⟨a1, e1, rfl⟩ := hrv.at_.slice
      obtain ⟨a2, e2, rfl⟩ := hrv.kids.slice
      obtain ⟨_, hlc2, hcm2⟩ := hrv.kids.len
      have hih := Lib.hid (fun W (hW : Below wr.heap.size wr W) => ih.out S (.slice a2 x.kids.length e2) x.kids W (by omega) hf2 (fun b h => by have := hS b h; have := hW.size; omega) (RepN.below (w := wr) (B := wr.heap.size) hrv.kids (fun b h => by have := hS b h; omega) hW))
      have hH := Lib.hid (fun W => ref06has x.text ⟨#[45, 45, 62]⟩ W (by have := hf1.2.1; omega) (by decide) (by decide))
      clear hv hr1
      have hone : M6.oneS x = (!((x.kind == 3) && M6.hasB [45, 45, 62] x.text.data.toList) && (x.kids.all (M6.fitsB x.name) && M6.allB x.kids)) := rfl
      rw [hone] at hmd
      clear hone
      replace hmd := Lib.hid hmd
      have hI0 : (0 : Int) ≤ (i : Int) := by omega
      have hI1 : (i : Int) < (l.length : Int) := by omega
      obtain ⟨rm, hrm⟩ : ∃ rm, ((x.kind == 3) && M6.hasB [45, 45, 62] x.text.data.toList) = rm := ⟨_, rfl⟩
      cases rm
      · -- it is no comment that ends in itself
        have hmd := hmd.out
        rw [hrm, Bool.not_false, Bool.true_and] at hmd
        replace hmd := Lib.hid hmd
        cases hk3 : (x.kind == 3)
        · go_wp2_with fail
          have hq0 : Hid (x.kids.all (M6.fitsB x.name) = (x.kids.drop 0).all (M6.fitsB x.name)) := rfl
          clear hH
          obtain ⟨wq, rfl⟩ : ∃ wq : World, wq = wr := ⟨_, rfl⟩
          go_loopw [4, 5] (fun u4 _ wr => ∃ k : Nat, k ≤ x.kids.length ∧ u4 = .int .i64 (k : Int) ∧ Hid (x.kids.all (M6.fitsB x.name) = (x.kids.drop k).all (M6.fitsB x.name)) ∧ Below wq.heap.size wq wr) (fun u4 _ _ => x.kids.length - (intOf u4).toNat)
          case atStart => exact ⟨0, by omega, rfl, hq0, Below.refl _ _⟩
          case round =>
            obtain ⟨k, hk, rfl, hv2, hb2⟩ := hrel
            have hz2 := hb2.size
            have c1' := cell_of_below hb2 c1 (by omega)
            have c4' := cell_of_below hb2 c4 (by omega)
            by_cases hlt2 : k < x.kids.length
            · have hrk := RepN.below (w := wq) (B := wq.heap.size) hrv.kids (fun b h => by have := hS b h; omega) hb2
              obtain ⟨b2, off2, va2, vk2, rfl, hSb2, d0, d1, d2, d3, d4, hrv2⟩ := hrk.at_ k hlt2
              have hmd2 := hv2.out.trans (all_drop _ x.kids k hlt2)
              obtain ⟨hg1, hg2⟩ := fitN_iff.1 hf2 _ (List.getElem_mem hlt2)
              generalize x.kids[k] = y at *
              obtain ⟨a3, e3, rfl⟩ := hrv2.at_.slice
              obtain ⟨a4, e4, rfl⟩ := hrv2.kids.slice
              have hF := Lib.hid (fun W => ref06Fits x.name y (.slice a3 y.attrs.length e3) (.slice a4 y.kids.length e4) W ⟨_, _, _, rfl⟩ ⟨_, _, _, rfl⟩ hf1.1 hg1.2.1)
              clear hv2 hrk hrv2
              have hK0 : (0 : Int) ≤ (k : Int) := by omega
              have hK1 : (k : Int) < (x.kids.length : Int) := by omega
              replace hmd2 := Lib.hid hmd2
              generalize M6.fitsB x.name y = q at *
              go_wp2_with fail
              go_still_tail 13, (by kernel_rfl)
              change wpList _ _ _ _ _ wr.drew
              go_wp2_with fail
              refine (hF.out _).mono ?_
              rintro e w3 ⟨rfl, hb3⟩
              have hbw3 : Below wq.heap.size wq w3 := bt hb2.drew hb3
              clear hF
              cases q
              · have hmd2 := hmd2.out
                rw [Bool.false_and] at hmd2
                have hmd := hmd.out
                rw [hmd2, Bool.false_and, Bool.false_and] at hmd
                replace hmd2 := Lib.hid hmd2
                replace hmd := Lib.hid hmd
                go_wp2_with fail
                go_ret
                exact ⟨by rw [hmd.out]; rfl, bt hb hbw3⟩
              · have hmd2 := hmd2.out
                rw [Bool.true_and] at hmd2
                replace hmd2 := Lib.hid hmd2
                go_wp2_with fail
                go_roundw
                case rel => exact ⟨k + 1, by omega, by go_num, hmd2, hbw3⟩
                case measure => exact meas_nat hlt2
            · obtain rfl : k = x.kids.length := by omega
              have hmd2 := hv2.out
              rw [List.drop_length, List.all_nil] at hmd2
              have hmd := hmd.out
              rw [hmd2, Bool.true_and] at hmd
              replace hmd := Lib.hid hmd
              replace hmd2 := Lib.hid hmd2
              have hk2 := Lib.hid (hih.out _ hb2)
              clear hih hv2
              go_wp2_with fail
              refine hk2.out.mono ?_
              rintro e w3 ⟨rfl, hb3⟩
              have hbw3 := bt hb (bt hb2 hb3)
              clear hk2
              generalize M6.allB x.kids = q at *
              cases q
              · have hmd := hmd.out
                rw [Bool.false_and] at hmd
                replace hmd := Lib.hid hmd
                go_wp2_with fail
                go_ret
                exact ⟨by rw [hmd.out]; rfl, hbw3⟩
              · have hmd := hmd.out
                rw [Bool.true_and] at hmd
                replace hmd := Lib.hid hmd
                go_wp2_with fail
                go_roundw
                case rel => exact ⟨i + 1, by omega, by go_num, hmd, hbw3⟩
                case measure => exact meas_nat hlt
        · rw [hk3, Bool.true_and] at hrm
          have hH := hH.out
          change ∀ W, Calls _ _ _ W fun e w' => e = .returned (.bool (M6.hasB [45, 45, 62] x.text.data.toList)) ∧ W = w' at hH
          rw [hrm] at hH
          replace hH := Lib.hid hH
          go_wp2_with fail
          refine (hH.out _).mono ?_
          rintro e w2 ⟨rfl, rfl⟩
          go_wp2_with fail
          have hq0 : Hid (x.kids.all (M6.fitsB x.name) = (x.kids.drop 0).all (M6.fitsB x.name)) := rfl
          clear hH
          obtain ⟨wq, rfl⟩ : ∃ wq : World, wq = wr := ⟨_, rfl⟩
          go_loopw [4, 5] (fun u4 _ wr => ∃ k : Nat, k ≤ x.kids.length ∧ u4 = .int .i64 (k : Int) ∧ Hid (x.kids.all (M6.fitsB x.name) = (x.kids.drop k).all (M6.fitsB x.name)) ∧ Below wq.heap.size wq wr) (fun u4 _ _ => x.kids.length - (intOf u4).toNat)
          case atStart => exact ⟨0, by omega, rfl, hq0, Below.refl _ _⟩
          case round =>
            obtain ⟨k, hk, rfl, hv2, hb2⟩ := hrel
            have hz2 := hb2.size
            have c1' := cell_of_below hb2 c1 (by omega)
            have c4' := cell_of_below hb2 c4 (by omega)
            by_cases hlt2 : k < x.kids.length
            · have hrk := RepN.below (w := wq) (B := wq.heap.size) hrv.kids (fun b h => by have := hS b h; omega) hb2
              obtain ⟨b2, off2, va2, vk2, rfl, hSb2, d0, d1, d2, d3, d4, hrv2⟩ := hrk.at_ k hlt2
              have hmd2 := hv2.out.trans (all_drop _ x.kids k hlt2)
              obtain ⟨hg1, hg2⟩ := fitN_iff.1 hf2 _ (List.getElem_mem hlt2)
              generalize x.kids[k] = y at *
              obtain ⟨a3, e3, rfl⟩ := hrv2.at_.slice
              obtain ⟨a4, e4, rfl⟩ := hrv2.kids.slice
              have hF := Lib.hid (fun W => ref06Fits x.name y (.slice a3 y.attrs.length e3) (.slice a4 y.kids.length e4) W ⟨_, _, _, rfl⟩ ⟨_, _, _, rfl⟩ hf1.1 hg1.2.1)
              clear hv2 hrk hrv2
              have hK0 : (0 : Int) ≤ (k : Int) := by omega
              have hK1 : (k : Int) < (x.kids.length : Int) := by omega
              replace hmd2 := Lib.hid hmd2
              generalize M6.fitsB x.name y = q at *
              go_wp2_with fail
              go_still_tail 13, (by kernel_rfl)
              change wpList _ _ _ _ _ wr.drew
              go_wp2_with fail
              refine (hF.out _).mono ?_
              rintro e w3 ⟨rfl, hb3⟩
              have hbw3 : Below wq.heap.size wq w3 := bt hb2.drew hb3
              clear hF
              cases q
              · have hmd2 := hmd2.out
                rw [Bool.false_and] at hmd2
                have hmd := hmd.out
                rw [hmd2, Bool.false_and, Bool.false_and] at hmd
                replace hmd2 := Lib.hid hmd2
                replace hmd := Lib.hid hmd
                go_wp2_with fail
                go_ret
                exact ⟨by rw [hmd.out]; rfl, bt hb hbw3⟩
              · have hmd2 := hmd2.out
                rw [Bool.true_and] at hmd2
                replace hmd2 := Lib.hid hmd2
                go_wp2_with fail
                go_roundw
                case rel => exact ⟨k + 1, by omega, by go_num, hmd2, hbw3⟩
                case measure => exact meas_nat hlt2
            · obtain rfl : k = x.kids.length := by omega
              have hmd2 := hv2.out
              rw [List.drop_length, List.all_nil] at hmd2
              have hmd := hmd.out
              rw [hmd2, Bool.true_and] at hmd
              replace hmd := Lib.hid hmd
              replace hmd2 := Lib.hid hmd2
              have hk2 := Lib.hid (hih.out _ hb2)
              clear hih hv2
              go_wp2_with fail
              refine hk2.out.mono ?_
              rintro e w3 ⟨rfl, hb3⟩
              have hbw3 := bt hb (bt hb2 hb3)
              clear hk2
              generalize M6.allB x.kids = q at *
              cases q
              · have hmd := hmd.out
                rw [Bool.false_and] at hmd
                replace hmd := Lib.hid hmd
                go_wp2_with fail
                go_ret
                exact ⟨by rw [hmd.out]; rfl, hbw3⟩
              · have hmd := hmd.out
                rw [Bool.true_and] at hmd
                replace hmd := Lib.hid hmd
                go_wp2_with fail
                go_roundw
                case rel => exact ⟨i + 1, by omega, by go_num, hmd, hbw3⟩
                case measure => exact meas_nat hlt
      · rw [Bool.and_eq_true] at hrm
        obtain ⟨hk3, hrm⟩ := hrm
        have hH := hH.out
        change ∀ W, Calls _ _ _ W fun e w' => e = .returned (.bool (M6.hasB [45, 45, 62] x.text.data.toList)) ∧ W = w' at hH
        have hmd := hmd.out
        rw [hrm] at hH
        rw [hk3, hrm, Bool.and_self, Bool.not_true, Bool.false_and, Bool.false_and] at hmd
        replace hH := Lib.hid hH
        replace hmd := Lib.hid hmd
        go_wp2_with fail
        refine (hH.out _).mono ?_
        rintro e w2 ⟨rfl, rfl⟩
        go_wp2_with fail
        go_ret
        exact ⟨by rw [hmd.out]; rfl, hb⟩
    · obtain rfl : i = l.length := by omega
      have hd := hv.out
      rw [List.drop_length, M6.allB_nil] at hd
      replace hd := Lib.hid hd
      clear hv
      go_wp2_with fail
      go_ret
      exact ⟨by rw [hd.out]; rfl, hb⟩

set_option maxHeartbeats 1000000 in
theorem ref06Stable (S : Nat → Prop) (v : Value) (l : List Nd) (w : World) (hf : FitN l) (hS : ∀ b, S b → b < w.heap.size) (hr : RepN S w v l) :
    Calls Try.prog 20 #[v] w (BoolB (M6.stableB l) w) := by
  have hM := Lib.hid (ref03May (M3.weight l + 1) S v l w (by omega) hf hS hr)
  have hL := Lib.hid (fun W (hb : Below w.heap.size w W) => ref06all (M3.weight l + 1) S v l W (by omega) hf (fun b h => Nat.lt_of_lt_of_le (hS b h) hb.size) (hr.below hS hb))
  unfold M6.stableB
  obtain ⟨a, cap, rfl⟩ := hr.slice
  clear hr
  generalize M6.allB l = q at *
  obtain ⟨wo, rfl⟩ : ∃ wo : World, wo = w := ⟨_, rfl⟩
  go_enter Try.func20, Try.ntmps20
  go_wp2_with fail
  refine hM.out.mono ?_
  rintro e w1 ⟨rfl, hb1⟩
  have hL1 := Lib.hid (hL.out w1 hb1)
  clear hL hM
  generalize M3.mayE false l = m at *
  cases hm : (m == 0)
  · go_wp2_with fail
    go_ret
    exact ⟨by rw [show decide (m = 0) = false from hm]; rfl, hb1⟩
  · go_wp2_with fail
    refine hL1.out.mono ?_
    rintro e w2 ⟨rfl, hb2⟩
    go_wp2_with fail
    go_ret
    exact ⟨by rw [show decide (m = 0) = true from hm]; rfl, bt hb1 hb2⟩
end Go.Proofs.Ytbnfaijkmbgpmaa

/- Layer 6's statements: what all of them ask; ModelKinds, ModelFits. -/
namespace Go.Proofs.Ytbnfaijkmbgpmaa
open Go.RowKit

theorem few06 (s : ByteArray) (w : World) (hs : s.size ≤ 9223372036854775807) : Calls Try.prog 11 #[.string s] w fun e w' => e = .returned (.string (few20 s)) ∧ w = w' := by
  obtain ⟨wo, rfl⟩ : ∃ wo : World, wo = w := ⟨_, rfl⟩
  unfold few20
  by_cases h : 20 < s.size
  · rw [if_pos h]
    go_enter Try.func11, Try.ntmps11
    go_wp2
    go_ret
    exact ⟨rfl, rfl⟩
  · rw [if_neg h]
    go_enter Try.func11, Try.ntmps11
    go_wp2
    go_ret
    exact ⟨rfl, rfl⟩

set_option maxHeartbeats 2000000 in
theorem lives06 (w : World) (hg : Glo w) : Calls Try.prog 13 #[] w (BoolB true w) := by
  have hC := Lib.hid (modCloses ⟨#[112]⟩ ⟨#[100, 105, 118]⟩ w (by decide))
  have hF1 := Lib.hid (fun W => modFits ⟨#[112]⟩ (.mk 1 ⟨#[100, 105, 118]⟩ [] ⟨#[]⟩ []) (.slice none 0 0) (.slice none 0 0) W ⟨_, _, _, rfl⟩ ⟨_, _, _, rfl⟩ (by decide) (by decide))
  have hF2 := Lib.hid (fun W => modFits ⟨#[115, 99, 114, 105, 112, 116]⟩ (.mk 1 ⟨#[98]⟩ [] ⟨#[]⟩ []) (.slice none 0 0) (.slice none 0 0) W ⟨_, _, _, rfl⟩ ⟨_, _, _, rfl⟩ (by decide) (by decide))
  have hS := Lib.hid (fun W hg => modStable (fun b => b < W.heap.size) (.slice none 0 0) [] W fitN_nil hg (fun _ h => h) (RepN.nil _ _))
  have e1 : M6.closesB (⟨#[112]⟩ : ByteArray).data.toList (⟨#[100, 105, 118]⟩ : ByteArray).data.toList = true := by decide
  have e2 : M6.fitsB ⟨#[112]⟩ (.mk 1 ⟨#[100, 105, 118]⟩ [] ⟨#[]⟩ []) = false := by decide
  have e3 : M6.fitsB ⟨#[115, 99, 114, 105, 112, 116]⟩ (.mk 1 ⟨#[98]⟩ [] ⟨#[]⟩ []) = false := by decide
  have e4 : M6.stableB [] = true := by unfold M6.stableB; rw [M3.mayE_nil, M6.allB_nil]; rfl
  rw [e1] at hC
  rw [e2] at hF1
  rw [e3] at hF2
  rw [e4] at hS
  replace hg := Lib.hid hg
  clear e1 e2 e3 e4
  obtain ⟨wo, rfl⟩ : ∃ wo : World, wo = w := ⟨_, rfl⟩
  go_enter Try.func13, Try.ntmps13
  go_wp2_with fail
  refine hC.out.mono ?_
  rintro e w1 ⟨rfl, hb1⟩
  go_wp2_with fail
  refine (hF1.out _).mono ?_
  rintro e w2 ⟨rfl, hb2⟩
  have hb12 := bt hb1 hb2
  go_wp2_with fail
  refine (hF2.out _).mono ?_
  rintro e w3 ⟨rfl, hb3⟩
  have hb13 := bt hb12 hb3
  have hg3 := Lib.hid (hg.out.below hb13 (Nat.le_refl _))
  go_wp2_with fail
  refine (hS.out _ hg3.out).mono ?_
  rintro e w4 ⟨rfl, hb4⟩
  go_wp2_with fail
  go_ret
  exact ⟨rfl, bt hb13 hb4⟩
end Go.Proofs.Ytbnfaijkmbgpmaa

/- Statement ModelKinds. -/
namespace Go.Proofs.Ytbnfaijkmbgpmaa
open Go.RowKit

set_option maxHeartbeats 8000000 in
set_option maxRecDepth 100000 in
theorem law06ModelKinds (S : Nat → Prop) (v : Value) (l : List Nd) (w : World) (hg : Glo w) (hS : ∀ b, S b → b < w.heap.size) (hr : RepN S w v l) (hsz : SzN l) :
    Calls Try.prog 8 #[v] w (BoolB true w) := by
  have hG := Lib.hid (ref03Good S v l w hS hr hsz)
  have hfit := Lib.hid (gd_fit l)
  obtain ⟨a, cap, rfl⟩ := hr.slice
  clear hr
  replace hg := Lib.hid hg
  have hgs : ∀ W, Below w.heap.size w W → Glo W := fun W h => hg.out.below h (Nat.le_refl _)
  have hLv := Lib.hid (fun W (h : Below w.heap.size w W) => lives06 W (hgs W h))
  clear hgs
  generalize gdN l = G at *
  obtain ⟨wo, rfl⟩ : ∃ wo : World, wo = w := ⟨_, rfl⟩
  go_enter Try.func8, Try.ntmps8
  go_wp2_with fail
  refine hG.out.mono ?_
  rintro e w1 ⟨v1, rfl, hf1, hb1⟩
  have hr := hf1.rep
  clear hf1 hG
  obtain ⟨a1, cap1, rfl⟩ := hr.slice
  obtain ⟨_, hlc, hcm⟩ := hr.len
  go_wp2_with fail
  go_loopw [4] (fun u4 wr => ∃ i : Nat, i ≤ G.length ∧ u4 = .int .i64 (i : Int) ∧ Below w1.heap.size w1 wr) (fun u4 _ => G.length - (intOf u4).toNat)
  case atStart => exact ⟨0, by omega, rfl, Below.refl _ _⟩
  case round =>
    obtain ⟨i, hi, rfl, hb⟩ := hrel
    have hz := hb.size
    by_cases hlt : i < G.length
    · have hr1 := hr.below (fun b h => h.2) hb
      obtain ⟨b, off, va, vk, rfl, hSb, c0, c1, c2, c3, c4, hrv⟩ := hr1.at_ i hlt
      have hbl := hSb.2
      obtain ⟨hf1, hf2⟩ := fitN_iff.1 hfit.out _ (List.getElem_mem hlt)
      generalize G[i] = x at *
      obtain ⟨a3, e3, rfl⟩ := hrv.at_.slice
      obtain ⟨a4, e4, rfl⟩ := hrv.kids.slice
      have hF := fun (p : ByteArray) (hp : p.size ≤ 268435456) W => modFits p x (.slice a3 x.attrs.length e3) (.slice a4 x.kids.length e4) W ⟨_, _, _, rfl⟩ ⟨_, _, _, rfl⟩ hp hf1.2.1
      have hBr := hF ⟨#[98, 114]⟩ (by decide)
      have hSt := hF ⟨#[115, 116, 121, 108, 101]⟩ (by decide)
      have hDi := hF ⟨#[100, 105, 118]⟩ (by decide)
      have hP := hF ⟨#[112]⟩ (by decide)
      have hCl := Lib.hid (fun W => modCloses ⟨#[112]⟩ x.name W (by decide))
      rw [M6.fits_br] at hBr
      clear hF hr1 hrv
      replace hBr := Lib.hid hBr
      have hI0 : (0 : Int) ≤ (i : Int) := by omega
      have hI1 : (i : Int) < (G.length : Int) := by omega
      cases hk : (x.kind == 1)
      · -- no element
        rw [M6.fits_div (by simpa using hk)] at hDi
        have hk1 : (x.kind != 1) = true := by rw [bne, hk]; rfl
        replace hDi := Lib.hid hDi
        clear hP hCl
        cases hk2 : (x.kind == 2)
        · rw [M6.fits_style (by simpa using hk2)] at hSt
          have hk3 : (x.kind != 2) = true := by rw [bne, hk2]; rfl
          replace hSt := Lib.hid hSt
          go_wp2_with fail
          refine (hBr.out _).mono ?_
          rintro e w2 ⟨rfl, hb2⟩
          have c0' := cell_of_below hb2 c0 (by omega)
          have c1' := cell_of_below hb2 c1 (by omega)
          have c2' := cell_of_below hb2 c2 (by omega)
          have c3' := cell_of_below hb2 c3 (by omega)
          have c4' := cell_of_below hb2 c4 (by omega)
          have hz2 := hb2.size
          clear c0 c1 c2 c3 c4
          go_wp2_with fail
          refine (hSt.out _).mono ?_
          rintro e w3 ⟨rfl, hb3⟩
          have c0 := cell_of_below hb3 c0' (by omega)
          have c1 := cell_of_below hb3 c1' (by omega)
          have c2 := cell_of_below hb3 c2' (by omega)
          have c3 := cell_of_below hb3 c3' (by omega)
          have c4 := cell_of_below hb3 c4' (by omega)
          have hz3 := hb3.size
          clear c0' c1' c2' c3' c4'
          go_wp2_with fail
          refine (hDi.out _).mono ?_
          rintro e w4 ⟨rfl, hb4⟩
          have c0' := cell_of_below hb4 c0 (by omega)
          have hbw := bt hb (bt hb2 (bt hb3 hb4))
          go_wp2_with fail
          go_quiet (fail)
          go_wp2_with fail
          go_roundw
          case rel => exact ⟨i + 1, by omega, by go_num, below_drewN hbw _⟩
          case measure => exact meas_nat hlt
        · have hk3 : (x.kind != 2) = false := by rw [bne, hk2]; rfl
          clear hSt
          go_wp2_with fail
          refine (hBr.out _).mono ?_
          rintro e w2 ⟨rfl, hb2⟩
          have c0' := cell_of_below hb2 c0 (by omega)
          have c1' := cell_of_below hb2 c1 (by omega)
          have c2' := cell_of_below hb2 c2 (by omega)
          have c3' := cell_of_below hb2 c3 (by omega)
          have c4' := cell_of_below hb2 c4 (by omega)
          have hz2 := hb2.size
          clear c0 c1 c2 c3 c4
          go_wp2_with fail
          refine (hDi.out _).mono ?_
          rintro e w4 ⟨rfl, hb4⟩
          have c0 := cell_of_below hb4 c0' (by omega)
          have hbw := bt hb (bt hb2 hb4)
          go_wp2_with fail
          go_quiet (fail)
          go_wp2_with fail
          go_roundw
          case rel => exact ⟨i + 1, by omega, by go_num, below_drewN hbw _⟩
          case measure => exact meas_nat hlt
      · -- an element
        rw [M6.fits_p (by simpa using hk)] at hP
        have hk1 : (x.kind != 1) = false := by rw [bne, hk]; rfl
        have hk2 : (x.kind == 2) = false := by rw [show x.kind = 1 by simpa using hk]; rfl
        have hk3 : (x.kind != 2) = true := by rw [bne, hk2]; rfl
        rw [M6.fits_style (by simpa using hk2)] at hSt
        replace hSt := Lib.hid hSt
        replace hP := Lib.hid hP
        clear hDi
        go_wp2_with fail
        refine (hBr.out _).mono ?_
        rintro e w2 ⟨rfl, hb2⟩
        have c0' := cell_of_below hb2 c0 (by omega)
        have c1' := cell_of_below hb2 c1 (by omega)
        have c2' := cell_of_below hb2 c2 (by omega)
        have c3' := cell_of_below hb2 c3 (by omega)
        have c4' := cell_of_below hb2 c4 (by omega)
        have hz2 := hb2.size
        clear c0 c1 c2 c3 c4
        go_wp2_with fail
        refine (hSt.out _).mono ?_
        rintro e w3 ⟨rfl, hb3⟩
        have p0 := cell_of_below hb3 c0' (by omega)
        have p1 := cell_of_below hb3 c1' (by omega)
        have p2 := cell_of_below hb3 c2' (by omega)
        have p3 := cell_of_below hb3 c3' (by omega)
        have p4 := cell_of_below hb3 c4' (by omega)
        have hz3 := hb3.size
        clear c0' c1' c2' c3' c4'
        have hbw := bt hb (bt hb2 hb3)
        change Hid (∀ W, Calls Try.prog 10 _ W fun e w' => e = .returned (.bool (M6.closesB [112] x.name.data.toList)) ∧ Below W.heap.size W w') at hCl
        generalize M6.closesB [112] x.name.data.toList = cb at *
        go_wp2_with fail
        have hne : ((!cb) == cb) = false := by cases cb <;> rfl
        refine wp_region_known (n := 20) ([some (Value.slice (some ⟨b, off, none⟩) G.length cap1), some (Value.int IntKind.i64 (i : Int)), some (.pointer (some ⟨b, off + i * 5, none⟩)), some (.pointer (some ⟨b, off + i * 5, none⟩)), some (.int .i64 x.kind), some (.bool true), some (.bool true), some (Value.slice (some ⟨b, off, none⟩) G.length cap1), some (Value.int IntKind.i64 (i : Int)), some (.pointer (some ⟨b, off + i * 5, none⟩)), some (x.val (.slice a3 x.attrs.length e3) (.slice a4 x.kids.length e4)), some (.bool (!cb)), some (Value.slice (some ⟨b, off, none⟩) G.length cap1), some (Value.int IntKind.i64 (i : Int)), some (.pointer (some ⟨b, off + i * 5, none⟩)), some (.pointer (some ⟨b, off + i * 5 + 1, none⟩)), some (.string x.name), some (.bool cb), some (.bool false), some (.bool false)] : List (Option Value)) (fun t => ⟨#[Value.slice a l.length cap, undef, u2, Value.slice (some ⟨b, off, none⟩) G.length cap1, Value.int IntKind.i64 (i : Int), Value.slice a l.length cap, Value.slice (some ⟨b, off, none⟩) G.length cap1, Value.int IntKind.i64 (i : Int), Value.slice (some ⟨b, off, none⟩) G.length cap1, Value.int IntKind.i64 (G.length : Int), Value.bool true, u11, u12, Value.slice (some ⟨b, off, none⟩) G.length cap1, Value.int IntKind.i64 (i : Int), Value.pointer (some ⟨b, off + i * 5, none⟩), Value.agg #[Value.int IntKind.i64 x.kind, Value.string x.name, Value.slice a3 x.attrs.length e3, Value.string x.text, Value.slice a4 x.kids.length e4], Value.bool false, Value.bool false, Value.slice (some ⟨b, off, none⟩) G.length cap1, Value.int IntKind.i64 (i : Int), Value.pointer (some ⟨b, off + i * 5, none⟩), Value.pointer (some ⟨b, off + i * 5, none⟩), Value.int IntKind.i64 x.kind, Value.bool true, Value.bool true, Value.slice (some ⟨b, off, none⟩) G.length cap1, Value.int IntKind.i64 (i : Int), Value.pointer (some ⟨b, off + i * 5, none⟩), Value.agg #[Value.int IntKind.i64 x.kind, Value.string x.name, Value.slice a3 x.attrs.length e3, Value.string x.text, Value.slice a4 x.kids.length e4], Value.bool false, Value.bool false, Value.bool false, Value.bool false, Value.slice (some ⟨b, off, none⟩) G.length cap1, Value.int IntKind.i64 (i : Int), Value.pointer (some ⟨b, off + i * 5, none⟩), Value.pointer (some ⟨b, off + i * 5, none⟩), Value.int IntKind.i64 x.kind, Value.bool false, Value.bool false, undef, undef, undef, undef, undef, undef, Value.bool false, Value.bool false, t 0, t 1, t 2, t 3, t 4, t 5, t 6, t 7, t 8, t 9, t 10, t 11, t 12, t 13, t 14, t 15, t 16, t 17, t 18, t 19, undef], []⟩) (fun f t W => Below w3.heap.size w3 W) (fun j => match j with | 0 => u49 | 1 => u50 | 2 => u51 | 3 => u52 | 4 => u53 | 5 => u54 | 6 => u55 | 7 => u56 | 8 => u57 | 9 => u58 | 10 => u59 | 11 => u60 | 12 => u61 | 13 => u62 | 14 => u63 | 15 => u64 | 16 => u65 | 17 => u66 | 18 => u67 | 19 => u68 | _ => undef) (by kernel_rfl) (by rfl) (by rfl) (by kernel_rfl) rfl ?i0 ?step ?fin
        case i0 =>
          exact (Below.refl _ w3).drew
        case step =>
          intro j0 hj0 f t W hfi hwt hk2 hI
          have s0 := cell_of_below hI p0 (by omega)
          have s1 := cell_of_below hI p1 (by omega)
          have s2 := cell_of_below hI p2 (by omega)
          have s3 := cell_of_below hI p3 (by omega)
          have s4 := cell_of_below hI p4 (by omega)
          obtain rfl | rfl | rfl | rfl | rfl | rfl | rfl | rfl | rfl | rfl | rfl | rfl | rfl | rfl | rfl | rfl | rfl | rfl | rfl | rfl : j0 = 0 ∨ j0 = 1 ∨ j0 = 2 ∨ j0 = 3 ∨ j0 = 4 ∨ j0 = 5 ∨ j0 = 6 ∨ j0 = 7 ∨ j0 = 8 ∨ j0 = 9 ∨ j0 = 10 ∨ j0 = 11 ∨ j0 = 12 ∨ j0 = 13 ∨ j0 = 14 ∨ j0 = 15 ∨ j0 = 16 ∨ j0 = 17 ∨ j0 = 18 ∨ j0 = 19 := by omega
          · -- operation 0
            replace hI := Lib.hid hI
            replace hk2 := Lib.hid hk2
            clear hwt
            refine wpOp_step rfl (fun K hK => ?_)
            go_simp
            exact hK _ _ ⟨_, by simp [updT], hk2.out.at_ rfl, hI.out⟩
          · -- operation 1
            replace hI := Lib.hid hI
            replace hk2 := Lib.hid hk2
            clear hwt
            refine wpOp_step rfl (fun K hK => ?_)
            go_simp
            exact hK _ _ ⟨_, by simp [updT], hk2.out.at_ rfl, hI.out⟩
          · -- operation 2
            have e0 : t 0 = Value.slice (some ⟨b, off, none⟩) G.length cap1 := hk2 0 _ (hwt 0 (by kernel_rfl)) rfl
            have e1 : t 1 = Value.int IntKind.i64 (i : Int) := hk2 1 _ (hwt 1 (by kernel_rfl)) rfl
            replace hI := Lib.hid hI
            replace hk2 := Lib.hid hk2
            clear hwt
            refine wpOp_step rfl (fun K hK => ?_)
            go_simp
            exact hK _ _ ⟨_, by simp [updT, e0, e1], hk2.out.at_ rfl, hI.out⟩
          · -- operation 3
            have e2 : t 2 = .pointer (some ⟨b, off + i * 5, none⟩) := hk2 2 _ (hwt 2 (by kernel_rfl)) rfl
            replace hI := Lib.hid hI
            replace hk2 := Lib.hid hk2
            clear hwt
            refine wpOp_step rfl (fun K hK => ?_)
            go_simp
            exact hK _ _ ⟨_, by simp [updT, e2], hk2.out.at_ rfl, hI.out⟩
          · -- operation 4
            have e3 : t 3 = .pointer (some ⟨b, off + i * 5, none⟩) := hk2 3 _ (hwt 3 (by kernel_rfl)) rfl
            replace hI := Lib.hid hI
            replace hk2 := Lib.hid hk2
            clear hwt
            refine wpOp_step rfl (fun K hK => ?_)
            go_simp
            exact hK _ _ ⟨_, by simp [updT, e3], hk2.out.at_ rfl, hI.out⟩
          · -- operation 5
            have e4 : t 4 = .int .i64 x.kind := hk2 4 _ (hwt 4 (by kernel_rfl)) rfl
            replace hI := Lib.hid hI
            replace hk2 := Lib.hid hk2
            clear hwt
            refine wpOp_step rfl (fun K hK => ?_)
            go_simp
            exact hK _ _ ⟨_, by simp [updT, e4], hk2.out.at_ rfl, hI.out⟩
          · -- operation 6
            have e5 : t 5 = .bool true := hk2 5 _ (hwt 5 (by kernel_rfl)) rfl
            replace hI := Lib.hid hI
            replace hk2 := Lib.hid hk2
            clear hwt
            refine wpOp_step rfl (fun K hK => ?_)
            go_simp
            exact hK _ _ ⟨_, by simp [updT, e5], hk2.out.at_ rfl, hI.out⟩
          · -- operation 7
            have e6 : t 6 = .bool true := hk2 6 _ (hwt 6 (by kernel_rfl)) rfl
            replace hI := Lib.hid hI
            replace hk2 := Lib.hid hk2
            clear hwt
            refine wpOp_step rfl (fun K hK => ?_)
            go_simp
            exact hK _ _ ⟨_, by simp [updT, e6], hk2.out.at_ rfl, hI.out⟩
          · -- operation 8
            have e6 : t 6 = .bool true := hk2 6 _ (hwt 6 (by kernel_rfl)) rfl
            replace hI := Lib.hid hI
            replace hk2 := Lib.hid hk2
            clear hwt
            refine wpOp_step rfl (fun K hK => ?_)
            go_simp
            exact hK _ _ ⟨_, by simp [updT, e6], hk2.out.at_ rfl, hI.out⟩
          · -- operation 9
            have e6 : t 6 = .bool true := hk2 6 _ (hwt 6 (by kernel_rfl)) rfl
            have e7 : t 7 = Value.slice (some ⟨b, off, none⟩) G.length cap1 := hk2 7 _ (hwt 7 (by kernel_rfl)) rfl
            have e8 : t 8 = Value.int IntKind.i64 (i : Int) := hk2 8 _ (hwt 8 (by kernel_rfl)) rfl
            replace hI := Lib.hid hI
            replace hk2 := Lib.hid hk2
            clear hwt
            refine wpOp_step rfl (fun K hK => ?_)
            go_simp
            exact hK _ _ ⟨_, by simp [updT, e6, e7, e8], hk2.out.at_ rfl, hI.out⟩
          · -- operation 10
            have e6 : t 6 = .bool true := hk2 6 _ (hwt 6 (by kernel_rfl)) rfl
            have e9 : t 9 = .pointer (some ⟨b, off + i * 5, none⟩) := hk2 9 _ (hwt 9 (by kernel_rfl)) rfl
            replace hI := Lib.hid hI
            replace hk2 := Lib.hid hk2
            clear hwt
            refine wpOp_step rfl (fun K hK => ?_)
            go_simp
            exact hK _ _ ⟨_, by simp [updT, e6, e9], hk2.out.at_ rfl, hI.out⟩
          · -- operation 11
            have e6 : t 6 = .bool true := hk2 6 _ (hwt 6 (by kernel_rfl)) rfl
            have e10 : t 10 = x.val (.slice a3 x.attrs.length e3) (.slice a4 x.kids.length e4) := hk2 10 _ (hwt 10 (by kernel_rfl)) rfl
            have hC := Lib.hid (hP.out W)
            replace hk2 := Lib.hid hk2
            replace hI := Lib.hid hI
            clear hwt
            refine wpOp_step rfl (fun K hK => ?_)
            go_simp
            refine hC.out.mono ?_
            rintro e w5 ⟨rfl, hb5⟩
            exact hK _ _ ⟨_, by simp [updT, e6, e10], hk2.out.at_ rfl, hI.out.trans (hb5.mono hI.out.size)⟩
          · -- operation 12
            have e6 : t 6 = .bool true := hk2 6 _ (hwt 6 (by kernel_rfl)) rfl
            replace hI := Lib.hid hI
            replace hk2 := Lib.hid hk2
            clear hwt
            refine wpOp_step rfl (fun K hK => ?_)
            go_simp
            exact hK _ _ ⟨_, by simp [updT, e6], hk2.out.at_ rfl, hI.out⟩
          · -- operation 13
            have e6 : t 6 = .bool true := hk2 6 _ (hwt 6 (by kernel_rfl)) rfl
            replace hI := Lib.hid hI
            replace hk2 := Lib.hid hk2
            clear hwt
            refine wpOp_step rfl (fun K hK => ?_)
            go_simp
            exact hK _ _ ⟨_, by simp [updT, e6], hk2.out.at_ rfl, hI.out⟩
          · -- operation 14
            have e6 : t 6 = .bool true := hk2 6 _ (hwt 6 (by kernel_rfl)) rfl
            have e12 : t 12 = Value.slice (some ⟨b, off, none⟩) G.length cap1 := hk2 12 _ (hwt 12 (by kernel_rfl)) rfl
            have e13 : t 13 = Value.int IntKind.i64 (i : Int) := hk2 13 _ (hwt 13 (by kernel_rfl)) rfl
            replace hI := Lib.hid hI
            replace hk2 := Lib.hid hk2
            clear hwt
            refine wpOp_step rfl (fun K hK => ?_)
            go_simp
            exact hK _ _ ⟨_, by simp [updT, e6, e12, e13], hk2.out.at_ rfl, hI.out⟩
          · -- operation 15
            have e6 : t 6 = .bool true := hk2 6 _ (hwt 6 (by kernel_rfl)) rfl
            have e14 : t 14 = .pointer (some ⟨b, off + i * 5, none⟩) := hk2 14 _ (hwt 14 (by kernel_rfl)) rfl
            replace hI := Lib.hid hI
            replace hk2 := Lib.hid hk2
            clear hwt
            refine wpOp_step rfl (fun K hK => ?_)
            go_simp
            exact hK _ _ ⟨_, by simp [updT, e6, e14], hk2.out.at_ rfl, hI.out⟩
          · -- operation 16
            have e6 : t 6 = .bool true := hk2 6 _ (hwt 6 (by kernel_rfl)) rfl
            have e15 : t 15 = .pointer (some ⟨b, off + i * 5 + 1, none⟩) := hk2 15 _ (hwt 15 (by kernel_rfl)) rfl
            replace hI := Lib.hid hI
            replace hk2 := Lib.hid hk2
            clear hwt
            refine wpOp_step rfl (fun K hK => ?_)
            go_simp
            exact hK _ _ ⟨_, by simp [updT, e6, e15], hk2.out.at_ rfl, hI.out⟩
          · -- operation 17
            have e6 : t 6 = .bool true := hk2 6 _ (hwt 6 (by kernel_rfl)) rfl
            have e16 : t 16 = .string x.name := hk2 16 _ (hwt 16 (by kernel_rfl)) rfl
            have hC := Lib.hid (hCl.out W)
            replace hk2 := Lib.hid hk2
            replace hI := Lib.hid hI
            clear hwt
            refine wpOp_step rfl (fun K hK => ?_)
            go_simp
            refine hC.out.mono ?_
            rintro e w5 ⟨rfl, hb5⟩
            exact hK _ _ ⟨_, by simp [updT, e6, e16], hk2.out.at_ rfl, hI.out.trans (hb5.mono hI.out.size)⟩
          · -- operation 18
            have e6 : t 6 = .bool true := hk2 6 _ (hwt 6 (by kernel_rfl)) rfl
            have e11 : t 11 = .bool (!cb) := hk2 11 _ (hwt 11 (by kernel_rfl)) rfl
            have e17 : t 17 = .bool cb := hk2 17 _ (hwt 17 (by kernel_rfl)) rfl
            replace hI := Lib.hid hI
            replace hk2 := Lib.hid hk2
            clear hwt
            refine wpOp_step rfl (fun K hK => ?_)
            go_simp
            exact hK _ _ ⟨_, by simp [updT, e6, e11, e17], hk2.out.at_ rfl, hI.out⟩
          · -- operation 19
            have e6 : t 6 = .bool true := hk2 6 _ (hwt 6 (by kernel_rfl)) rfl
            have e18 : t 18 = .bool false := hk2 18 _ (hwt 18 (by kernel_rfl)) rfl
            replace hI := Lib.hid hI
            replace hk2 := Lib.hid hk2
            clear hwt
            refine wpOp_step rfl (fun K hK => ?_)
            go_simp
            exact hK _ _ ⟨_, by simp [updT, e6, e18], hk2.out.at_ rfl, hI.out⟩
        case fin =>
          intro f t W hall hk2 hI
          have e19 := hk2 19 _ (hall 19 (by omega)) rfl
          clear hk2 hall
          dsimp only
          rw [e19]
          replace hI := Lib.hid hI
          clear hP hCl
          go_wp2_with fail
          go_roundw
          case rel => exact ⟨i + 1, by omega, by go_num, bt hbw hI.out⟩
          case measure => exact meas_nat hlt
    · obtain rfl : i = G.length := by omega
      have hbw := bt hb1 hb
      go_wp2_with fail
      refine (hLv.out _ hbw).mono ?_
      rintro e w2 ⟨rfl, hb2⟩
      go_wp2_with fail
      go_ret
      exact ⟨rfl, bt hbw hb2⟩
end Go.Proofs.Ytbnfaijkmbgpmaa

/- Statement ModelFits. -/
namespace Go.Proofs.Ytbnfaijkmbgpmaa
open Go.RowKit

set_option maxHeartbeats 8000000 in
set_option maxRecDepth 100000 in
theorem law06ModelFits (S : Nat → Prop) (s : ByteArray) (v : Value) (l : List Nd) (w : World) (hg : Glo w) (hS : ∀ b, S b → b < w.heap.size) (hr : RepN S w v l) (hsz : SzN l) (hs : s.size ≤ 9223372036854775807) :
    Calls Try.prog 4 #[.string s, v] w (BoolB true w) := by
  have hG := Lib.hid (ref03Good S v l w hS hr hsz)
  have hfit := Lib.hid (gd_fit l)
  obtain ⟨a, cap, rfl⟩ := hr.slice
  clear hr
  replace hg := Lib.hid hg
  have hgs : ∀ W, Below w.heap.size w W → Glo W := fun W h => hg.out.below h (Nat.le_refl _)
  have hLv := Lib.hid (fun W (h : Below w.heap.size w W) => lives06 W (hgs W h))
  clear hgs
  generalize gdN l = G at *
  have hFw := Lib.hid (fun W => few06 s W hs)
  have hp := few20_size s
  generalize few20 s = p at *
  obtain ⟨wo, rfl⟩ : ∃ wo : World, wo = w := ⟨_, rfl⟩
  go_enter Try.func4, Try.ntmps4
  go_wp2_with fail
  refine hG.out.mono ?_
  rintro e w1 ⟨v1, rfl, hf1, hb1⟩
  have hr := hf1.rep
  clear hf1 hG
  obtain ⟨a1, cap1, rfl⟩ := hr.slice
  obtain ⟨_, hlc, hcm⟩ := hr.len
  go_wp2_with fail
  refine (hFw.out _).mono ?_
  rintro e w2 ⟨rfl, rfl⟩
  go_wp2_with fail
  go_loopw [6] (fun u6 wr => ∃ i : Nat, i ≤ G.length ∧ u6 = .int .i64 (i : Int) ∧ Below w1.heap.size w1 wr) (fun u6 _ => G.length - (intOf u6).toNat)
  case atStart => exact ⟨0, by omega, rfl, Below.refl _ _⟩
  case round =>
    obtain ⟨i, hi, rfl, hb⟩ := hrel
    have hz := hb.size
    by_cases hlt : i < G.length
    · have hr1 := hr.below (fun b h => h.2) hb
      obtain ⟨b, off, va, vk, rfl, hSb, c0, c1, c2, c3, c4, hrv⟩ := hr1.at_ i hlt
      have hbl := hSb.2
      obtain ⟨hf1, hf2⟩ := fitN_iff.1 hfit.out _ (List.getElem_mem hlt)
      generalize G[i] = x at *
      obtain ⟨a3, e3, rfl⟩ := hrv.at_.slice
      obtain ⟨a4, e4, rfl⟩ := hrv.kids.slice
      have hA := Lib.hid (fun W => modFits p x (.slice a3 x.attrs.length e3) (.slice a4 x.kids.length e4) W ⟨_, _, _, rfl⟩ ⟨_, _, _, rfl⟩ (by omega) hf1.2.1)
      have hB := Lib.hid (fun W => ref06Fits p x (.slice a3 x.attrs.length e3) (.slice a4 x.kids.length e4) W ⟨_, _, _, rfl⟩ ⟨_, _, _, rfl⟩ (by omega) hf1.2.1)
      clear hr1 hrv
      have hI0 : (0 : Int) ≤ (i : Int) := by omega
      have hI1 : (i : Int) < (G.length : Int) := by omega
      generalize M6.fitsB p x = q at *
      have hne : (q != q) = false := by cases q <;> rfl
      go_wp2_with fail
      refine wp_region_known (n := 13) ([some (Value.string p), some (Value.slice (some ⟨b, off, none⟩) G.length cap1), some (Value.int IntKind.i64 (i : Int)), some (.pointer (some ⟨b, off + i * 5, none⟩)), some (x.val (.slice a3 x.attrs.length e3) (.slice a4 x.kids.length e4)), some (.bool q), some (Value.string p), some (Value.slice (some ⟨b, off, none⟩) G.length cap1), some (Value.int IntKind.i64 (i : Int)), some (.pointer (some ⟨b, off + i * 5, none⟩)), some (x.val (.slice a3 x.attrs.length e3) (.slice a4 x.kids.length e4)), some (.bool q), some (.bool false)] : List (Option Value)) (fun t => ⟨#[Value.string p, Value.slice a l.length cap, undef, undef, u4, Value.slice (some ⟨b, off, none⟩) G.length cap1, Value.int IntKind.i64 (i : Int), Value.slice a l.length cap, Value.slice (some ⟨b, off, none⟩) G.length cap1, Value.string s, Value.string p, Value.int IntKind.i64 (i : Int), Value.slice (some ⟨b, off, none⟩) G.length cap1, Value.int IntKind.i64 (G.length : Int), Value.bool true, u15, u16, t 0, t 1, t 2, t 3, t 4, t 5, t 6, t 7, t 8, t 9, t 10, t 11, t 12, undef], []⟩) (fun f t W => Below wr.heap.size wr W) (fun j => match j with | 0 => u17 | 1 => u18 | 2 => u19 | 3 => u20 | 4 => u21 | 5 => u22 | 6 => u23 | 7 => u24 | 8 => u25 | 9 => u26 | 10 => u27 | 11 => u28 | 12 => u29 | _ => undef) (by kernel_rfl) (by rfl) (by rfl) (by kernel_rfl) rfl ?i0 ?step ?fin
      case i0 =>
        exact (Below.refl _ wr).drew
      case step =>
        intro j0 hj0 f t W hfi hwt hk2 hI
        have s0 := cell_of_below hI c0 (by omega)
        have s1 := cell_of_below hI c1 (by omega)
        have s2 := cell_of_below hI c2 (by omega)
        have s3 := cell_of_below hI c3 (by omega)
        have s4 := cell_of_below hI c4 (by omega)
        obtain rfl | rfl | rfl | rfl | rfl | rfl | rfl | rfl | rfl | rfl | rfl | rfl | rfl : j0 = 0 ∨ j0 = 1 ∨ j0 = 2 ∨ j0 = 3 ∨ j0 = 4 ∨ j0 = 5 ∨ j0 = 6 ∨ j0 = 7 ∨ j0 = 8 ∨ j0 = 9 ∨ j0 = 10 ∨ j0 = 11 ∨ j0 = 12 := by omega
        · -- operation 0
          replace hI := Lib.hid hI
          replace hk2 := Lib.hid hk2
          clear hwt
          refine wpOp_step rfl (fun K hK => ?_)
          go_simp
          exact hK _ _ ⟨_, by simp [updT], hk2.out.at_ rfl, hI.out⟩
        · -- operation 1
          replace hI := Lib.hid hI
          replace hk2 := Lib.hid hk2
          clear hwt
          refine wpOp_step rfl (fun K hK => ?_)
          go_simp
          exact hK _ _ ⟨_, by simp [updT], hk2.out.at_ rfl, hI.out⟩
        · -- operation 2
          replace hI := Lib.hid hI
          replace hk2 := Lib.hid hk2
          clear hwt
          refine wpOp_step rfl (fun K hK => ?_)
          go_simp
          exact hK _ _ ⟨_, by simp [updT], hk2.out.at_ rfl, hI.out⟩
        · -- operation 3
          have e1 : t 1 = Value.slice (some ⟨b, off, none⟩) G.length cap1 := hk2 1 _ (hwt 1 (by kernel_rfl)) rfl
          have e2 : t 2 = Value.int IntKind.i64 (i : Int) := hk2 2 _ (hwt 2 (by kernel_rfl)) rfl
          replace hI := Lib.hid hI
          replace hk2 := Lib.hid hk2
          clear hwt
          refine wpOp_step rfl (fun K hK => ?_)
          go_simp
          exact hK _ _ ⟨_, by simp [updT, e1, e2], hk2.out.at_ rfl, hI.out⟩
        · -- operation 4
          have e3 : t 3 = .pointer (some ⟨b, off + i * 5, none⟩) := hk2 3 _ (hwt 3 (by kernel_rfl)) rfl
          replace hI := Lib.hid hI
          replace hk2 := Lib.hid hk2
          clear hwt
          refine wpOp_step rfl (fun K hK => ?_)
          go_simp
          exact hK _ _ ⟨_, by simp [updT, e3], hk2.out.at_ rfl, hI.out⟩
        · -- operation 5
          have e0 : t 0 = Value.string p := hk2 0 _ (hwt 0 (by kernel_rfl)) rfl
          have e4 : t 4 = x.val (.slice a3 x.attrs.length e3) (.slice a4 x.kids.length e4) := hk2 4 _ (hwt 4 (by kernel_rfl)) rfl
          have hC := Lib.hid (hA.out W)
          replace hk2 := Lib.hid hk2
          replace hI := Lib.hid hI
          clear hwt
          refine wpOp_step rfl (fun K hK => ?_)
          go_simp
          refine hC.out.mono ?_
          rintro e w5 ⟨rfl, hb5⟩
          exact hK _ _ ⟨_, by simp [updT, e0, e4], hk2.out.at_ rfl, hI.out.trans (hb5.mono hI.out.size)⟩
        · -- operation 6
          replace hI := Lib.hid hI
          replace hk2 := Lib.hid hk2
          clear hwt
          refine wpOp_step rfl (fun K hK => ?_)
          go_simp
          exact hK _ _ ⟨_, by simp [updT], hk2.out.at_ rfl, hI.out⟩
        · -- operation 7
          replace hI := Lib.hid hI
          replace hk2 := Lib.hid hk2
          clear hwt
          refine wpOp_step rfl (fun K hK => ?_)
          go_simp
          exact hK _ _ ⟨_, by simp [updT], hk2.out.at_ rfl, hI.out⟩
        · -- operation 8
          replace hI := Lib.hid hI
          replace hk2 := Lib.hid hk2
          clear hwt
          refine wpOp_step rfl (fun K hK => ?_)
          go_simp
          exact hK _ _ ⟨_, by simp [updT], hk2.out.at_ rfl, hI.out⟩
        · -- operation 9
          have e7 : t 7 = Value.slice (some ⟨b, off, none⟩) G.length cap1 := hk2 7 _ (hwt 7 (by kernel_rfl)) rfl
          have e8 : t 8 = Value.int IntKind.i64 (i : Int) := hk2 8 _ (hwt 8 (by kernel_rfl)) rfl
          replace hI := Lib.hid hI
          replace hk2 := Lib.hid hk2
          clear hwt
          refine wpOp_step rfl (fun K hK => ?_)
          go_simp
          exact hK _ _ ⟨_, by simp [updT, e7, e8], hk2.out.at_ rfl, hI.out⟩
        · -- operation 10
          have e9 : t 9 = .pointer (some ⟨b, off + i * 5, none⟩) := hk2 9 _ (hwt 9 (by kernel_rfl)) rfl
          replace hI := Lib.hid hI
          replace hk2 := Lib.hid hk2
          clear hwt
          refine wpOp_step rfl (fun K hK => ?_)
          go_simp
          exact hK _ _ ⟨_, by simp [updT, e9], hk2.out.at_ rfl, hI.out⟩
        · -- operation 11
          have e6 : t 6 = Value.string p := hk2 6 _ (hwt 6 (by kernel_rfl)) rfl
          have e10 : t 10 = x.val (.slice a3 x.attrs.length e3) (.slice a4 x.kids.length e4) := hk2 10 _ (hwt 10 (by kernel_rfl)) rfl
          have hC := Lib.hid (hB.out W)
          replace hk2 := Lib.hid hk2
          replace hI := Lib.hid hI
          clear hwt
          refine wpOp_step rfl (fun K hK => ?_)
          go_simp
          refine hC.out.mono ?_
          rintro e w5 ⟨rfl, hb5⟩
          exact hK _ _ ⟨_, by simp [updT, e6, e10], hk2.out.at_ rfl, hI.out.trans (hb5.mono hI.out.size)⟩
        · -- operation 12
          have e5 : t 5 = .bool q := hk2 5 _ (hwt 5 (by kernel_rfl)) rfl
          have e11 : t 11 = .bool q := hk2 11 _ (hwt 11 (by kernel_rfl)) rfl
          replace hI := Lib.hid hI
          replace hk2 := Lib.hid hk2
          clear hwt
          refine wpOp_step rfl (fun K hK => ?_)
          go_simp
          exact hK _ _ ⟨_, by simp [updT, e5, e11], hk2.out.at_ rfl, hI.out⟩
      case fin =>
        intro f t W hall hk2 hI
        have e12 := hk2 12 _ (hall 12 (by omega)) rfl
        clear hk2 hall
        try dsimp only
        rw [e12]
        replace hI := Lib.hid hI
        clear hA hB
        go_wp2_with fail
        go_roundw
        case rel => exact ⟨i + 1, by omega, by go_num, bt hb hI.out⟩
        case measure => exact meas_nat hlt
    · obtain rfl : i = G.length := by omega
      have hbw := bt hb1 hb
      go_wp2_with fail
      refine (hLv.out _ hbw).mono ?_
      rintro e w2 ⟨rfl, hb2⟩
      go_wp2_with fail
      go_ret
      exact ⟨rfl, bt hbw hb2⟩
end Go.Proofs.Ytbnfaijkmbgpmaa

/- One node of a row, as a slice of its own. -/
namespace Go.Proofs.Ytbnfaijkmbgpmaa
open Go.RowKit

/-- One node of a list, as a list. -/
theorem RepN.sub {S : Nat → Prop} {w : World} {b off cap i : Nat} {x : Nd} {va vk : Value} (hS : S b) (hi : i < cap) (hcap : cap ≤ 9223372036854775807)
    (p0 : w.cell? ⟨b, off + i * 5, none⟩ = some (.int .i64 x.kind)) (p1 : w.cell? ⟨b, off + i * 5 + 1, none⟩ = some (.string x.name)) (p2 : w.cell? ⟨b, off + i * 5 + 2, none⟩ = some va) (p3 : w.cell? ⟨b, off + i * 5 + 3, none⟩ = some (.string x.text)) (p4 : w.cell? ⟨b, off + i * 5 + 4, none⟩ = some vk) (h : RepV S w x va vk) :
    RepN S w (.slice (some ⟨b, off + i * 5, none⟩) 1 (cap - i)) [x] := by
  refine ⟨x.cells va vk, ⟨rfl, some ⟨b, off + i * 5, none⟩, cap - i, rfl, by show 1 ≤ cap - i; omega, by omega, (fun h => by cases h), fun _ => ⟨b, off + i * 5, rfl, hS, fun j u hu => ?_⟩⟩, RepC.single h⟩
  match j, hu with
  | 0, hu => cases hu; exact p0
  | 1, hu => cases hu; exact p1
  | 2, hu => cases hu; exact p2
  | 3, hu => cases hu; exact p3
  | 4, hu => cases hu; exact p4
  | j + 5, hu => simp at hu
end Go.Proofs.Ytbnfaijkmbgpmaa

/- Statement ModelParts. -/
namespace Go.Proofs.Ytbnfaijkmbgpmaa
open Go.RowKit

theorem all_take (q : Nd → Bool) (l : List Nd) (i : Nat) (h : i < l.length) : (l.take (i + 1)).all q = ((l.take i).all q && q l[i]) := by
  rw [List.take_succ_eq_append_getElem h, List.all_append, List.all_cons, List.all_nil, Bool.and_true]

set_option maxHeartbeats 8000000 in
set_option maxRecDepth 100000 in
theorem law06ModelParts (S : Nat → Prop) (v : Value) (l : List Nd) (w : World) (hg : Glo w) (hS : ∀ b, S b → b < w.heap.size) (hr : RepN S w v l) (hsz : SzN l) :
    Calls Try.prog 7 #[v] w (BoolB true w) := by
  have hG := Lib.hid (ref03Good S v l w hS hr hsz)
  have hfit := Lib.hid (gd_fit l)
  have hmay := Lib.hid (gd_may l)
  obtain ⟨a, cap, rfl⟩ := hr.slice
  clear hr
  replace hg := Lib.hid hg
  have hgs : ∀ W, Below w.heap.size w W → Glo W := fun W h => hg.out.below h (Nat.le_refl _)
  have hLv := Lib.hid (fun W (h : Below w.heap.size w W) => lives06 W (hgs W h))
  clear hgs
  generalize gdN l = G at *
  obtain ⟨wo, rfl⟩ : ∃ wo : World, wo = w := ⟨_, rfl⟩
  go_enter Try.func7, Try.ntmps7
  go_wp2_with fail
  refine hG.out.mono ?_
  rintro e w1 ⟨v1, rfl, hf1, hb1⟩
  have hr := hf1.rep
  clear hf1 hG
  have hg1 := Lib.hid (hg.out.below hb1 (Nat.le_refl _))
  obtain ⟨a1, cap1, rfl⟩ := hr.slice
  obtain ⟨_, hlc, hcm⟩ := hr.len
  go_wp2_with fail
  go_loopw [4, 5, 6, 7, 8, 9, 10] (fun u4 u5 _ _ _ _ _ wr => ∃ i : Nat, i ≤ G.length ∧ u4 = .bool ((G.take i).all fun x => M6.stableB [x]) ∧ u5 = .int .i64 (i : Int) ∧ Below w1.heap.size w1 wr) (fun _ u5 _ _ _ _ _ _ => G.length - (intOf u5).toNat)
  case atStart => exact ⟨0, by omega, rfl, rfl, Below.refl _ _⟩
  case round =>
    obtain ⟨i, hi, rfl, rfl, hb⟩ := hrel
    have hz := hb.size
    by_cases hlt : i < G.length
    · have hr1 := hr.below (fun b h => h.2) hb
      obtain ⟨b, off, va, vk, rfl, hSb, c0, c1, c2, c3, c4, hrv⟩ := hr1.at_ i hlt
      have hbl := hSb.2
      obtain ⟨hf1, hf2⟩ := fitN_iff.1 hfit.out _ (List.getElem_mem hlt)
      have hat := Lib.hid (all_take (fun x => M6.stableB [x]) G i hlt)
      have hst := Lib.hid (M6.stable_one hmay.out (List.getElem_mem hlt))
      generalize G[i] = x at *
      have hrs : RepN (fun b => b < wr.heap.size) wr (.slice (some ⟨b, off + i * 5, none⟩) 1 (cap1 - i)) [x] := RepN.sub (by omega) (by omega) hcm c0 c1 c2 c3 c4 (hrv.mono (fun b h => by omega))
      obtain ⟨a3, e3, rfl⟩ := hrv.at_.slice
      obtain ⟨a4, e4, rfl⟩ := hrv.kids.slice
      obtain ⟨_, hlc2, hcm2⟩ := hrv.kids.len
      have hfx : FitN [x] := fitN_cons.2 ⟨hf1, hf2, fitN_nil⟩
      have hgr := hg1.out.below hb (Nat.le_refl _)
      have hA := Lib.hid (modStable _ _ [x] wr hfx hgr (fun _ h => h) hrs)
      have hB := Lib.hid (fun W (hW : Below wr.heap.size wr W) => modStable _ _ x.kids W hf2 (hgr.below hW (Nat.le_refl _)) (fun b (h : b < W.heap.size) => h) ((RepN.below (w := wr) (B := wr.heap.size) hrv.kids (fun b h => by omega) hW).mono (fun b h => by have := hW.size; omega)))
      clear hr1 hrs hgr hfx
      have hI0 : (0 : Int) ≤ (i : Int) := by omega
      have hI1 : (i : Int) < (G.length : Int) := by omega
      have g1 : (0 : Int) ≤ (i : Int) ∧ (i : Int) ≤ (i : Int) + 1 ∧ (i : Int) + 1 ≤ (cap1 : Int) := by omega
      have g2 : ¬ (cap1 = i) := by omega
      generalize M6.stableB [x] = q1 at *
      generalize M6.stableB x.kids = q2 at *
      go_wp2_with fail
      refine hA.out.mono ?_
      rintro e w2 ⟨rfl, hb2⟩
      have c0' := cell_of_below hb2 c0 (by omega)
      have c1' := cell_of_below hb2 c1 (by omega)
      have c4' := cell_of_below hb2 c4 (by omega)
      have hz2 := hb2.size
      have hB2 := Lib.hid (hB.out w2 hb2)
      clear hA hB c0 c1 c2 c3 c4
      go_wp2_with fail
      refine hB2.out.mono ?_
      rintro e w3 ⟨rfl, hb3⟩
      have hb23 := bt hb2 hb3
      have c0 := cell_of_below hb3 c0' (by omega)
      have c1 := cell_of_below hb3 c1' (by omega)
      have c4 := cell_of_below hb3 c4' (by omega)
      have hz3 := hb3.size
      clear hB2 c0' c1' c4'
      go_wp2_with fail
      obtain ⟨wq, rfl⟩ : ∃ wq : World, wq = wr := ⟨_, rfl⟩
      go_loopw [8, 9, 10] (fun u8 u9 _ wr => ∃ k : Nat, k ≤ x.kids.length ∧ u8 = .bool ((x.kids.take k).all (M6.fitsB x.name)) ∧ u9 = .int .i64 (k : Int) ∧ Below w3.heap.size w3 wr) (fun _ u9 _ _ => x.kids.length - (intOf u9).toNat)
      case atStart => exact ⟨0, by omega, rfl, rfl, Below.refl _ _⟩
      case round =>
        obtain ⟨k, hk, rfl, rfl, hb4⟩ := hrel
        have hz4 := hb4.size
        have c1' := cell_of_below hb4 c1 (by omega)
        have c4' := cell_of_below hb4 c4 (by omega)
        have hbq := bt hb23 hb4
        by_cases hlt2 : k < x.kids.length
        · have hrk := RepN.below (w := wq) (B := wq.heap.size) hrv.kids (fun b h => by omega) hbq
          obtain ⟨b2, off2, va2, vk2, rfl, hSb2, d0, d1, d2, d3, d4, hrv2⟩ := hrk.at_ k hlt2
          obtain ⟨hg1', hg2'⟩ := fitN_iff.1 hf2 _ (List.getElem_mem hlt2)
          have hat2 := Lib.hid (all_take (M6.fitsB x.name) x.kids k hlt2)
          generalize x.kids[k] = y at *
          obtain ⟨a5, e5, rfl⟩ := hrv2.at_.slice
          obtain ⟨a6, e6, rfl⟩ := hrv2.kids.slice
          have hF := Lib.hid (fun W => modFits x.name y (.slice a5 y.attrs.length e5) (.slice a6 y.kids.length e6) W ⟨_, _, _, rfl⟩ ⟨_, _, _, rfl⟩ hf1.1 hg1'.2.1)
          clear hrk hrv2
          have hK0 : (0 : Int) ≤ (k : Int) := by omega
          have hK1 : (k : Int) < (x.kids.length : Int) := by omega
          generalize M6.fitsB x.name y = q at *
          obtain ⟨r, hr0⟩ : ∃ r, (x.kids.take k).all (M6.fitsB x.name) = r := ⟨_, rfl⟩
          rw [hr0] at hat2 ⊢
          clear hr0
          go_wp2_with fail
          go_still_tail 13, (by kernel_rfl)
          change wpList _ _ _ _ _ wr.drew
          go_wp2_with fail
          refine (hF.out _).mono ?_
          rintro e w5 ⟨rfl, hb5⟩
          have hbw5 : Below w3.heap.size w3 w5 := bt hb4.drew hb5
          clear hF
          cases r
          · have hat2 := hat2.out
            rw [Bool.false_and] at hat2
            replace hat2 := Lib.hid hat2
            go_wp2_with fail
            go_roundw
            case rel => exact ⟨k + 1, by omega, by rw [hat2.out], by go_num, hbw5⟩
            case measure => exact meas_nat hlt2
          · have hat2 := hat2.out
            rw [Bool.true_and] at hat2
            replace hat2 := Lib.hid hat2
            go_wp2_with fail
            go_roundw
            case rel => exact ⟨k + 1, by omega, by rw [hat2.out], by go_num, hbw5⟩
            case measure => exact meas_nat hlt2
        · obtain rfl : k = x.kids.length := by omega
          rw [List.take_length]
          have hbw4 := bt hb (bt hb23 hb4)
          obtain ⟨A, hA⟩ : ∃ A, ((G.take i).all fun x => M6.stableB [x]) = A := ⟨_, rfl⟩
          rw [hA] at hat ⊢
          clear hA
          generalize x.kids.all (M6.fitsB x.name) = q3 at *
          have hst := hst.out
          have hat := hat.out
          cases q1
          · rw [Bool.and_false] at hat
            replace hat := Lib.hid hat
            clear hst
            cases A
            · go_wp2_with fail
              go_roundw
              case rel => exact ⟨i + 1, by omega, by rw [hat.out]; rfl, by go_num, hbw4⟩
              case measure => exact meas_nat hlt
            · go_wp2_with fail
              go_roundw
              case rel => exact ⟨i + 1, by omega, by rw [hat.out]; rfl, by go_num, hbw4⟩
              case measure => exact meas_nat hlt
          · obtain ⟨rfl, rfl⟩ := hst rfl
            rw [Bool.and_true] at hat
            replace hat := Lib.hid hat
            clear hst
            cases A
            · go_wp2_with fail
              go_roundw
              case rel => exact ⟨i + 1, by omega, by rw [hat.out], by go_num, hbw4⟩
              case measure => exact meas_nat hlt
            · go_wp2_with fail
              go_roundw
              case rel => exact ⟨i + 1, by omega, by rw [hat.out], by go_num, hbw4⟩
              case measure => exact meas_nat hlt
    · obtain rfl : i = G.length := by omega
      have hbw := bt hb1 hb
      have hgr := hg1.out.below hb (Nat.le_refl _)
      have hA := Lib.hid (modStable _ _ G wr hfit.out hgr (fun b h => h) ((hr.below (fun b h => h.2) hb).mono (fun b h => by omega)))
      rw [List.take_length]
      have hp := M6.stable_parts hmay.out
      rw [← hp]
      clear hp hgr
      generalize M6.stableB G = q at *
      have hqq : (q == q) = true := by cases q <;> rfl
      go_wp2_with fail
      refine hA.out.mono ?_
      rintro e w2 ⟨rfl, hb2⟩
      have hbw2 := bt hbw hb2
      go_wp2_with fail
      refine (hLv.out _ hbw2).mono ?_
      rintro e w3 ⟨rfl, hb3⟩
      go_wp2_with fail
      go_ret
      exact ⟨rfl, bt hbw2 hb3⟩
end Go.Proofs.Ytbnfaijkmbgpmaa

/- Contracts of the library's shelf, laid in plain words (lay-plain.mjs), this program's numbers by name. -/
namespace Go.Proofs.Ytbnfaijkmbgpmaa
open Go.RowKit Go.Maps Go.Sort Go.Shelf

def Try.keysOf_ren : Go.Shelf.Ren := ⟨fun | 7 => 25 | 10 => 46 | n => n, fun | 23 => 40 | 26 => 9 | 3 => 22 | 28 => 38 | 0 => 0 | 27 => 37 | 33 => 43 | 4 => 4 | n => n, fun | n => n⟩

theorem Try.keysOf : Go.Proofs.SlLaysZ.n7 Try.prog Try.keysOf_ren := {
  mixed := by kernel_rfl
  f7 := ⟨Try.f25.name, by decide, Try.func25.trans (congrArg some (by kernel_rfl))⟩
  f10 := ⟨Try.f46.name, by decide, Try.func46.trans (congrArg some (by kernel_rfl))⟩
  t0 := Try.underlying0
  a0 := Try.isAgg0
  z0 := Try.sizeOf0
  v0 := Try.zeroValue0
  t4 := Try.underlying4
  a4 := Try.isAgg4
  z4 := Try.sizeOf4
  v4 := Try.zeroValue4
  t23 := Try.underlying40
  a23 := Try.isAgg40
  z23 := Try.sizeOf40
  v23 := Try.zeroValue40
  t26 := Try.underlying9
  a26 := Try.isAgg9
  z26 := Try.sizeOf9
  v26 := Try.zeroValue9
  t27 := Try.underlying37
  a27 := Try.isAgg37
  z27 := Try.sizeOf37
  v27 := Try.zeroValue37
  t28 := Try.underlying38
  a28 := Try.isAgg38
  z28 := Try.sizeOf38
  v28 := Try.zeroValue38
  t33 := Try.underlying43
  a33 := Try.isAgg43
  z33 := Try.sizeOf43
  v33 := Try.zeroValue43 }

def Try.sortedOf_ren : Go.Shelf.Ren := ⟨fun | 6 => 24 | 8 => 44 | 9 => 45 | 11 => 62 | 13 => 64 | 12 => 63 | 23 => 91 | 24 => 92 | 14 => 82 | 15 => 83 | 16 => 84 | 17 => 85 | 18 => 86 | 19 => 87 | 20 => 88 | 21 => 89 | 22 => 90 | 25 => 107 | 26 => 108 | 27 => 109 | 28 => 110 | 29 => 111 | 30 => 112 | 31 => 121 | n => n, fun | 26 => 9 | 28 => 38 | 24 => 22 | 0 => 0 | 3 => 3 | 37 => 69 | 48 => 90 | 50 => 92 | 4 => 4 | 40 => 83 | 39 => 82 | 45 => 87 | 5 => 5 | 9 => 9 | 51 => 102 | 55 => 106 | 57 => 120 | 58 => 121 | 33 => 43 | n => n, fun | n => n⟩

theorem Try.sortedOf : Go.Proofs.SlLaysZ.n6 Try.prog Try.sortedOf_ren := {
  mixed := by kernel_rfl
  f6 := ⟨Try.f24.name, by decide, Try.func24.trans (congrArg some (by kernel_rfl))⟩
  f8 := ⟨Try.f44.name, by decide, Try.func44.trans (congrArg some (by kernel_rfl))⟩
  f11 := ⟨Try.f62.name, by decide, Try.func62.trans (congrArg some (by kernel_rfl))⟩
  t0 := Try.underlying0
  a0 := Try.isAgg0
  z0 := Try.sizeOf0
  v0 := Try.zeroValue0
  t24 := Try.underlying22
  a24 := Try.isAgg22
  z24 := Try.sizeOf22
  v24 := Try.zeroValue22
  t26 := Try.underlying9
  a26 := Try.isAgg9
  z26 := Try.sizeOf9
  v26 := Try.zeroValue9
  t28 := Try.underlying38
  a28 := Try.isAgg38
  z28 := Try.sizeOf38
  v28 := Try.zeroValue38
  i26 := by kernel_rfl }

def Try.sortOf_ren : Go.Shelf.Ren := ⟨fun | 6 => 45 | 8 => 64 | 9 => 63 | 19 => 91 | 20 => 92 | 21 => 82 | 22 => 83 | 23 => 84 | 24 => 85 | 25 => 86 | 26 => 87 | 27 => 88 | 28 => 89 | 29 => 90 | 36 => 107 | 31 => 108 | 32 => 109 | 37 => 110 | 38 => 111 | 39 => 112 | 41 => 121 | n => n, fun | 27 => 22 | 29 => 9 | 3 => 3 | 32 => 69 | 26 => 22 | 0 => 0 | 44 => 90 | 46 => 92 | 4 => 4 | 36 => 83 | 35 => 82 | 41 => 87 | 5 => 5 | 9 => 9 | 53 => 102 | 57 => 106 | 63 => 120 | 64 => 121 | n => n, fun | n => n⟩

theorem Try.sortOf : Go.Proofs.SlLaysM.n6 Try.prog Try.sortOf_ren := {
  mixed := by kernel_rfl
  f6 := ⟨Try.f45.name, by decide, Try.func45.trans (congrArg some (by kernel_rfl))⟩
  f8 := Try.func64.trans (congrArg some (by kernel_rfl))
  f9 := ⟨Try.f63.name, by decide, Try.func63.trans (congrArg some (by kernel_rfl))⟩
  f19 := Try.func91.trans (congrArg some (by kernel_rfl))
  f20 := Try.func92.trans (congrArg some (by kernel_rfl))
  f21 := ⟨Try.f82.name, by decide, Try.func82.trans (congrArg some (by kernel_rfl))⟩
  f22 := ⟨Try.f83.name, by decide, Try.func83.trans (congrArg some (by kernel_rfl))⟩
  f23 := ⟨Try.f84.name, by decide, Try.func84.trans (congrArg some (by kernel_rfl))⟩
  f24 := ⟨Try.f85.name, by decide, Try.func85.trans (congrArg some (by kernel_rfl))⟩
  f25 := ⟨Try.f86.name, by decide, Try.func86.trans (congrArg some (by kernel_rfl))⟩
  f26 := ⟨Try.f87.name, by decide, Try.func87.trans (congrArg some (by kernel_rfl))⟩
  f27 := ⟨Try.f88.name, by decide, Try.func88.trans (congrArg some (by kernel_rfl))⟩
  f28 := ⟨Try.f89.name, by decide, Try.func89.trans (congrArg some (by kernel_rfl))⟩
  f29 := ⟨Try.f90.name, by decide, Try.func90.trans (congrArg some (by kernel_rfl))⟩
  f31 := Try.func108.trans (congrArg some (by kernel_rfl))
  f32 := Try.func109.trans (congrArg some (by kernel_rfl))
  f36 := ⟨Try.f107.name, by decide, Try.func107.trans (congrArg some (by kernel_rfl))⟩
  f37 := ⟨Try.f110.name, by decide, Try.func110.trans (congrArg some (by kernel_rfl))⟩
  f38 := ⟨Try.f111.name, by decide, Try.func111.trans (congrArg some (by kernel_rfl))⟩
  f39 := ⟨Try.f112.name, by decide, Try.func112.trans (congrArg some (by kernel_rfl))⟩
  f41 := ⟨Try.f121.name, by decide, Try.func121.trans (congrArg some (by kernel_rfl))⟩
  t0 := Try.underlying0
  a0 := Try.isAgg0
  z0 := Try.sizeOf0
  v0 := Try.zeroValue0
  t3 := Try.underlying3
  a3 := Try.isAgg3
  z3 := Try.sizeOf3
  v3 := Try.zeroValue3
  t4 := Try.underlying4
  a4 := Try.isAgg4
  z4 := Try.sizeOf4
  v4 := Try.zeroValue4
  t5 := Try.underlying5
  a5 := Try.isAgg5
  z5 := Try.sizeOf5
  v5 := Try.zeroValue5
  t9 := Try.underlying9
  a9 := Try.isAgg9
  z9 := Try.sizeOf9
  v9 := Try.zeroValue9
  t26 := Try.underlying22
  a26 := Try.isAgg22
  z26 := Try.sizeOf22
  v26 := Try.zeroValue22
  t27 := Try.underlying22
  a27 := Try.isAgg22
  z27 := Try.sizeOf22
  v27 := Try.zeroValue22
  t29 := Try.underlying9
  a29 := Try.isAgg9
  z29 := Try.sizeOf9
  v29 := Try.zeroValue9
  t32 := Try.underlying69
  a32 := Try.isAgg69
  z32 := Try.sizeOf69
  v32 := Try.zeroValue69
  t35 := Try.underlying82
  a35 := Try.isAgg82
  z35 := Try.sizeOf82
  v35 := Try.zeroValue82
  t36 := Try.underlying83
  a36 := Try.isAgg83
  z36 := Try.sizeOf83
  v36 := Try.zeroValue83
  t41 := Try.underlying87
  a41 := Try.isAgg87
  z41 := Try.sizeOf87
  v41 := Try.zeroValue87
  t44 := Try.underlying90
  a44 := Try.isAgg90
  z44 := Try.sizeOf90
  v44 := Try.zeroValue90
  t46 := Try.underlying92
  a46 := Try.isAgg92
  z46 := Try.sizeOf92
  v46 := Try.zeroValue92
  t53 := Try.underlying102
  a53 := Try.isAgg102
  z53 := Try.sizeOf102
  v53 := Try.zeroValue102
  t57 := Try.underlying106
  a57 := Try.isAgg106
  z57 := Try.sizeOf106
  v57 := Try.zeroValue106
  t63 := Try.underlying120
  a63 := Try.isAgg120
  z63 := Try.sizeOf120
  v63 := Try.zeroValue120
  t64 := Try.underlying121
  a64 := Try.isAgg121
  z64 := Try.sizeOf121
  v64 := Try.zeroValue121 }
theorem Try.sortsOf (m : Nat) : AnyZ.SortsIn Try.prog Try.sortedOf_ren Fence.wide m :=
  ⟨fun blk off cap ss W hH hblk hsz => callsIn_wide.2 (AnyM.slices_Sort_string Try.sortOf blk off cap ss W hH hblk hsz),
   fun p cap W => callsIn_wide.2 (AnyM.slices_Sort_string_none Try.sortOf p cap W)⟩

/-- maps.Keys: a function value over one new block, which holds the map. -/
theorem mapsKeys (mb : Option Nat) (W : World) : Calls Try.prog 25 #[.map mb] W fun e w' => e = .returned (.func (.func 46) #[] #[.pointer (some ⟨W.heap.size, 0, none⟩)]) ∧ w' = W.alloc (.cells #[.map mb] 40) :=
  callsIn_wide.1 (AnyZ.keys_in Try.keysOf Fence.wide 5 trivial rfl mb W)

set_option maxHeartbeats 1000000 in
/-- slices.Sorted at what maps.Keys handed back: a new slice of the map's keys, sorted. -/
theorem sortedKeys {H : Type} (b nn : Nat) (D0 : DataW H) (R : Value → Option (DataW H × List MemPlace)) (w : World) (hown : w.ownsMap Try.prog 9 R b nn D0) (hmax : Maps.size D0 ≤ maxLen) (hbytes : Maps.size D0 * 16 ≤ 140737488355328) :
    Calls Try.prog 24 #[.func (.func 46) #[] #[.pointer (some ⟨w.heap.size, 0, none⟩)]] (w.alloc (.cells #[.map (some b)] 40)) fun e w' => ∃ (v : Value) (ss : List (List UInt8)), e = .returned v ∧ ss.Perm (strKeys D0) ∧
      w'.ownsRow (w.alloc (.cells #[.map (some b)] 40)).heap.size 9 1 v ss.length ((ss.mergeSort (fun x y => decide (x ≤ y))).map encStr) ∧ (v = .slice none 0 0 ↔ ss = []) ∧ Below (w.alloc (.cells #[.map (some b)] 40)).heap.size (w.alloc (.cells #[.map (some b)] 40)) w' := by
  have hbl := hown.lt
  have hseq : SeqGives Fence.wide 2 Try.prog 46 #[.pointer (some ⟨w.heap.size, 0, none⟩)] encStr (fun ss => ss.Perm (strKeys D0)) (Maps.size D0) (w.alloc (.cells #[.map (some b)] 40)) :=
    AnyZ.keys_gives (ρ := Try.keysOf_ren) { Try.keysOf with } Fence.wide _ trivial rfl (by omega) w.heap.size b nn D0 _ (by simp) (by simp) (by
      obtain ⟨es, clock, hb, Ft, hs, hD⟩ := hown
      exact ⟨es, clock, (Below.heap_alloc _ _ b hbl).trans hb, Ft, hs, hD⟩)
  exact callsIn_wide.1 (AnyZ.sorted_in Try.sortedOf Fence.wide 5 trivial trivial trivial trivial rfl (by omega) (Try.sortsOf _) (enters_of Try.func45 (by kernel_rfl) rfl) 46 #[.pointer (some ⟨w.heap.size, 0, none⟩)] trivial (enters_of Try.func46 (by kernel_rfl) rfl) _ _ hmax hbytes _ hseq)
end Go.Proofs.Ytbnfaijkmbgpmaa

/- Statement ModelCloses. -/
namespace Go.Proofs.Ytbnfaijkmbgpmaa
open Go.RowKit Go.Maps Go.Sort

def keysL : List (List UInt8) := [[100, 100], [100, 116], [108, 105], [111, 112, 116, 105, 111, 110], [112], [116, 100], [116, 114]]
def keysB : List ByteArray := [⟨#[100, 100]⟩, ⟨#[100, 116]⟩, ⟨#[108, 105]⟩, ⟨#[111, 112, 116, 105, 111, 110]⟩, ⟨#[112]⟩, ⟨#[116, 100]⟩, ⟨#[116, 114]⟩]

theorem keys_row (v : Nat → Value) : strKeys (rowD (cloRow v) (.map [])) = keysL ∧ Maps.size (rowD (cloRow v) (.map [])) = 7 := by
  constructor <;> rfl

theorem keys_sorted {ss : List (List UInt8)} (h : ss.Perm keysL) : ss.mergeSort (fun x y => decide (x ≤ y)) = keysL := by
  have h1 := mergeSort_of_perm h
  rw [show ss.mergeSort (fun x y => decide (x ≤ y)) = keysL.mergeSort (fun x y => decide (x ≤ y)) from h1]
  exact List.mergeSort_of_pairwise (by decide)

set_option maxHeartbeats 1000000 in
theorem modClosed (w : World) : Calls Try.prog 9 #[] w fun e w' => ∃ v, e = .returned v ∧ Txs (fun b => b < w'.heap.size) w' v keysB ∧ Below w.heap.size w w' := by
  have hC := Lib.hid (modClosers w)
  obtain ⟨wo, rfl⟩ : ∃ wo : World, wo = w := ⟨_, rfl⟩
  go_enter Try.func9, Try.ntmps9
  go_wp2_with fail
  refine hC.out.mono ?_
  rintro e w1 ⟨m, rfl, hc, hb1⟩
  obtain ⟨v, ho, _⟩ := hc
  obtain ⟨k1, k2⟩ := keys_row v
  have hK := Lib.hid (mapsKeys (some m) w1)
  have hS := Lib.hid (sortedKeys m 7 (rowD (cloRow v) (.map [])) heldR w1 ho (by rw [k2]; decide) (by rw [k2]; decide))
  rw [k1] at hS
  replace ho := Lib.hid ho
  clear k1 k2 hC
  go_wp2_with fail
  refine hK.out.mono ?_
  rintro e w2 ⟨rfl, rfl⟩
  go_wp2_with fail
  refine hS.out.mono ?_
  rintro e w3 ⟨v3, ss, rfl, hp, hrow, _, hb3⟩
  rw [keys_sorted hp, hp.length_eq] at hrow
  have ht : Txs (fun b => b < w3.heap.size) w3 v3 keysB := Row.own hrow (fun g hg => (hrow.lt g hg).2)
  have hbw : Below wo.heap.size wo w3 := bt hb1 (((Below.refl _ w1).alloc (Nat.le_refl _) _).trans (hb3.mono (by simp)))
  replace ht := Lib.hid ht
  clear hrow hS hK hp
  go_wp2_with fail
  go_ret
  exact ⟨v3, rfl, ht.out, hbw⟩

def hadB (s : ByteArray) (i : Nat) : Bool := (keysB.take i).any fun t => t.toList == s.toList

theorem had_step (s : ByteArray) (i : Nat) (h : i < keysB.length) : hadB s (i + 1) = (hadB s i || (keysB[i].toList == s.toList)) := by
  unfold hadB
  rw [List.take_succ_eq_append_getElem h, List.any_append, List.any_cons, List.any_nil, Bool.or_false]

theorem keys_rise (i : Nat) (h0 : 0 < i) (h : i < keysB.length) : Op.bytesLess keysB[i - 1].toList keysB[i].toList = true := by
  have h7 : i < 7 := h
  rw [Lib.toList_data, Lib.toList_data]
  rcases (by omega : i = 1 ∨ i = 2 ∨ i = 3 ∨ i = 4 ∨ i = 5 ∨ i = 6) with rfl | rfl | rfl | rfl | rfl | rfl <;> rfl

theorem had_closes (o b : ByteArray) (h : M6.closesB o.data.toList b.data.toList = true) : hadB o 7 = true := by
  unfold hadB
  rw [show keysB.take 7 = keysB from rfl, List.any_eq_true]
  unfold M6.closesB M6.closedL at h
  have key : ∀ t : ByteArray, t ∈ keysB → o.data.toList = t.data.toList → ∃ t, t ∈ keysB ∧ (t.toList == o.toList) = true := fun t ht e => ⟨t, ht, by rw [Lib.toList_data, Lib.toList_data, e]; simp⟩
  split at h
  · rename_i e; exact key ⟨#[112]⟩ (by simp [keysB]) e
  split at h
  · rename_i e; exact key ⟨#[108, 105]⟩ (by simp [keysB]) e
  split at h
  · rename_i e
    rcases e with e | e
    · exact key ⟨#[100, 116]⟩ (by simp [keysB]) e
    · exact key ⟨#[100, 100]⟩ (by simp [keysB]) e
  split at h
  · rename_i e; exact key ⟨#[111, 112, 116, 105, 111, 110]⟩ (by simp [keysB]) e
  split at h
  · rename_i e; exact key ⟨#[116, 100]⟩ (by simp [keysB]) e
  split at h
  · rename_i e; exact key ⟨#[116, 114]⟩ (by simp [keysB]) e
  · simp at h

set_option maxHeartbeats 8000000 in
set_option maxRecDepth 100000 in
theorem law06ModelCloses (o b : ByteArray) (w : World) (hg : Glo w) (ho : o.size ≤ 9223372036854775807) (hb : b.size ≤ 9223372036854775807) :
    Calls Try.prog 3 #[.string o, .string b] w (BoolB true w) := by
  have hC := Lib.hid (modClosed w)
  replace hg := Lib.hid hg
  have hgs : ∀ W, Below w.heap.size w W → Glo W := fun W h => hg.out.below h (Nat.le_refl _)
  have hLv := Lib.hid (fun W (h : Below w.heap.size w W) => lives06 W (hgs W h))
  clear hgs
  obtain ⟨wo, rfl⟩ : ∃ wo : World, wo = w := ⟨_, rfl⟩
  go_enter Try.func3, Try.ntmps3
  go_wp2_with fail
  refine hC.out.mono ?_
  rintro e w1 ⟨v, rfl, ht, hb1⟩
  obtain ⟨a, cap, rfl⟩ := Row.slice ht
  obtain ⟨_, hlc, hcm⟩ := Row.len ht
  have hl7 : keysB.length = 7 := rfl
  rw [hl7] at hlc ⊢
  go_wp2_with fail
  go_loopw [6, 7] (fun u6 u7 wr => ∃ i : Nat, i ≤ 7 ∧ u6 = .bool (hadB o i) ∧ u7 = .int .i64 (i : Int) ∧ Below w1.heap.size w1 wr) (fun _ u7 _ => 7 - (intOf u7).toNat)
  case atStart => exact ⟨0, by omega, rfl, rfl, Below.refl _ _⟩
  case round =>
    obtain ⟨i, hi, rfl, rfl, hbr⟩ := hrel
    by_cases hlt : i < 7
    · have hs := Lib.hid (had_step o i (by rw [hl7]; exact hlt))
      have ht1 : Txs (fun b => b < w1.heap.size) wr (.slice a 7 cap) keysB := Row.keep ht (fun b h => hbr.block b h)
      obtain ⟨g, off, rfl, _, c0⟩ := Row.atS ht1 i (by rw [hl7]; exact hlt)
      have c1 : ∀ h : 0 < i, wr.cell? ⟨g, off + (i - 1), none⟩ = some (.string keysB[i - 1]) := fun h => by
        obtain ⟨g', off', e, _, c⟩ := Row.atS ht1 (i - 1) (by rw [hl7]; omega)
        cases e
        exact c
      have hri := keys_rise i
      clear ht1
      have hi00 : (0 : Int) ≤ (i : Int) := by omega
      have hi77 : (i : Int) < 7 := by omega
      by_cases hi0 : 0 < i
      · have c1 := c1 hi0
        have hri := hri hi0 (by rw [hl7]; exact hlt)
        have hj : ((i : Int) - 1) = ((i - 1 : Nat) : Int) := by omega
        generalize keysB[i] = t at *
        generalize keysB[i - 1] = t' at *
        obtain ⟨j, hj2⟩ : ∃ j, i - 1 = j := ⟨_, rfl⟩
        rw [hj2] at c1 hj
        have hjlt : (j : Int) < 7 := by omega
        have hj0 : (0 : Int) ≤ (j : Int) := by omega
        have hi0' : (0 : Int) < (i : Int) := by omega
        clear hj2
        cases hd : hadB o i
        · rw [hd, Bool.false_or] at hs
          obtain ⟨e, he⟩ : ∃ e, (t.toList == o.toList) = e := ⟨_, rfl⟩
          rw [he] at hs
          go_wp2_with fail
          go_quiet (fail)
          go_wp2_with fail
          go_roundw
          case rel => exact ⟨i + 1, by omega, by rw [hs.out], by go_num, below_drewN hbr _⟩
          case measure => exact meas_nat hlt
        · rw [hd, Bool.true_or] at hs
          go_wp2_with fail
          go_quiet (fail)
          go_wp2_with fail
          go_roundw
          case rel => exact ⟨i + 1, by omega, by rw [hs.out], by go_num, below_drewN hbr _⟩
          case measure => exact meas_nat hlt
      · clear c1 hri
        obtain rfl : i = 0 := by omega
        rw [show hadB o 0 = false from rfl, Bool.false_or] at hs
        rw [Nat.add_zero] at c0
        generalize keysB[0] = t at *
        obtain ⟨e, he⟩ : ∃ e, (t.toList == o.toList) = e := ⟨_, rfl⟩
        rw [he] at hs
        go_wp2_with fail
        go_quiet (fail)
        go_wp2_with fail
        go_roundw
        case rel => exact ⟨0 + 1, by omega, by rw [hs.out], by go_num, below_drewN hbr _⟩
        case measure => exact meas_nat hlt
    · obtain rfl : i = 7 := by omega
      have hbw := bt hb1 hbr
      have hFo := Lib.hid (fun W => few06 o W ho)
      have hFb := Lib.hid (fun W => few06 b W hb)
      have hA := Lib.hid (fun W => modCloses (few20 o) (few20 b) W (by have := few20_size o; omega))
      have hB := Lib.hid (fun W => ref06Closes (few20 o) (few20 b) W)
      have hD := Lib.hid (fun W => modCloses o b W ho)
      have hcl := Lib.hid (had_closes o b)
      generalize hadB o 7 = hd at *
      generalize few20 o = fo at *
      generalize few20 b = fb at *
      generalize M6.closesB fo.data.toList fb.data.toList = q at *
      generalize M6.closesB o.data.toList b.data.toList = q2 at *
      have hqq : (q == q) = true := by cases q <;> rfl
      clear hlt
      go_wp2_with fail
      refine (hFo.out _).mono ?_
      rintro e w2 ⟨rfl, rfl⟩
      go_wp2_with fail
      refine (hFb.out _).mono ?_
      rintro e w2 ⟨rfl, rfl⟩
      go_wp2_with fail
      refine (hA.out _).mono ?_
      rintro e w2 ⟨rfl, hb2⟩
      go_wp2_with fail
      refine (hFo.out _).mono ?_
      rintro e w3 ⟨rfl, rfl⟩
      go_wp2_with fail
      refine (hFb.out _).mono ?_
      rintro e w3 ⟨rfl, rfl⟩
      go_wp2_with fail
      refine (hB.out _).mono ?_
      rintro e w3 ⟨rfl, hb3⟩
      go_wp2_with fail
      refine (hD.out _).mono ?_
      rintro e w4 ⟨rfl, hb4⟩
      have hbw4 := bt hbw (bt hb2 (bt hb3 hb4))
      have hL := Lib.hid (hLv.out w4 hbw4)
      clear hLv
      cases q2
      · clear hcl
        go_wp2_with fail
        refine hL.out.mono ?_
        rintro e w5 ⟨rfl, hb5⟩
        go_wp2_with fail
        go_ret
        exact ⟨rfl, bt hbw4 hb5⟩
      · obtain rfl := hcl.out rfl
        go_wp2_with fail
        refine hL.out.mono ?_
        rintro e w5 ⟨rfl, hb5⟩
        go_wp2_with fail
        go_ret
        exact ⟨rfl, bt hbw4 hb5⟩
end Go.Proofs.Ytbnfaijkmbgpmaa

/- Layer 6: how great nodes are that were made stable. No program in it. -/
namespace Go.Proofs.Ytbnfaijkmbgpmaa
open Go.RowKit

/-- All texts of nodes, at each depth. -/
def dtN : List Nd → Nat
  | [] => 0
  | .mk _ _ _ t ks :: r => t.size + dtN ks + dtN r
termination_by l => SizeOf.sizeOf l

theorem dt_nil : dtN [] = 0 := by rw [dtN]

theorem dt_cons (x : Nd) (r : List Nd) : dtN (x :: r) = x.text.size + dtN x.kids + dtN r := by cases x; rw [dtN]; rfl

theorem dt_append (a b : List Nd) : dtN (a ++ b) = dtN a + dtN b := by
  induction a with
  | nil => rw [List.nil_append, dt_nil, Nat.zero_add]
  | cons x r ih => rw [List.cons_append, dt_cons, dt_cons, ih]; omega

theorem txt_dt (l : List Nd) : txtN l ≤ dtN l := by
  induction l with
  | nil => exact Nat.zero_le _
  | cons x r ih => rw [txtN_cons, dt_cons]; omega

theorem dt_mem {x : Nd} {l : List Nd} (h : x ∈ l) : x.text.size + dtN x.kids ≤ dtN l := by
  induction l with
  | nil => exact (nomatch h)
  | cons y r ih =>
    rw [dt_cons]
    rcases List.mem_cons.1 h with rfl | h
    · omega
    · have := ih h; omega

theorem dt_filter (q : Nd → Bool) (l : List Nd) : dtN (l.filter q) ≤ dtN l := by
  induction l with
  | nil => exact Nat.le_refl _
  | cons x r ih =>
    cases h : q x
    · rw [List.filter_cons_of_neg (by rw [h]; exact Bool.false_ne_true), dt_cons]; omega
    · rw [List.filter_cons_of_pos h, dt_cons, dt_cons]; omega

theorem weight_filter (q : Nd → Bool) (l : List Nd) : M3.weight (l.filter q) ≤ M3.weight l := by
  induction l with
  | nil => exact Nat.le_refl _
  | cons x r ih =>
    cases h : q x
    · rw [List.filter_cons_of_neg (by rw [h]; exact Bool.false_ne_true), M3.weight_cons]; omega
    · rw [List.filter_cons_of_pos h, M3.weight_cons, M3.weight_cons]; omega

theorem fit_filter (q : Nd → Bool) {l : List Nd} (h : FitN l) : FitN (l.filter q) :=
  fitN_iff.2 (fun x hx => fitN_iff.1 h x (List.mem_filter.1 hx).1)

theorem dt_push (out : List Nd) (x : Nd) : dtN (M3.push out x) ≤ dtN out + (x.text.size + dtN x.kids) := by
  cases h : M3.bareB x
  · rcases List.eq_nil_or_concat out with rfl | ⟨o, y, rfl⟩
    · rw [M3.push_none h, dt_cons, dt_nil]; omega
    · rw [List.concat_eq_append, M3.push_snoc h]
      split
      · rw [dt_append, dt_append, dt_cons, dt_cons, M3.withText_text, M3.withText_kids, cat_size, dt_nil]
        omega
      · rw [dt_append, dt_cons, dt_nil]
        omega
  · rw [M3.push_bare h]; omega

theorem dt_merge (l : List Nd) : dtN (M3.merge l) ≤ dtN l := by
  have key : ∀ (l out : List Nd), dtN (l.foldl M3.push out) ≤ dtN out + dtN l := by
    intro l
    induction l with
    | nil => intro out; exact Nat.le_add_right _ _
    | cons x r ih =>
      intro out
      have h1 := ih (M3.push out x)
      have h2 := dt_push out x
      rw [List.foldl_cons, dt_cons]
      omega
  have := key l []
  rw [dt_nil] at this
  simpa [M3.merge] using this

theorem steadyQ_sizes (l : List Nd) : ∀ q, M3.weight (M6.steadyQ q l) ≤ M3.weight l ∧ dtN (M6.steadyQ q l) ≤ dtN l := by
  induction l using Nd.ind with
  | h0 => intro q; rw [M6.steadyQ_nil]; exact ⟨Nat.le_refl _, Nat.le_refl _⟩
  | h1 k n a t ks r ih1 ih2 =>
    intro q
    obtain ⟨r1, r2⟩ := ih2 q
    obtain ⟨k1, k2⟩ := ih1 (M6.fitsB n)
    have h1 := Nat.le_trans (weight_filter (M6.fitsB n) _) (Nat.le_trans (weight_merge _) k1)
    have h2 := Nat.le_trans (dt_filter (M6.fitsB n) _) (Nat.le_trans (dt_merge _) k2)
    rw [M6.steadyQ_cons, M3.weight_append, dt_append, M3.weight_cons, dt_cons]
    show _ + _ ≤ 1 + a.length + M3.weight ks + M3.weight r ∧ _ + _ ≤ t.size + dtN ks + dtN r
    split
    · unfold M6.oneN
      split
      · rw [M3.weight_cons, M3.weight_nil, dt_cons, dt_nil]
        show 1 + a.length + M3.weight ((M3.merge (M6.steadyQ (M6.fitsB n) ks)).filter (M6.fitsB n)) + 0 + _ ≤ _ ∧ t.size + dtN ((M3.merge (M6.steadyQ (M6.fitsB n) ks)).filter (M6.fitsB n)) + 0 + _ ≤ _
        omega
      · rw [M3.weight_cons, M3.weight_nil, dt_cons, dt_nil]
        show 1 + a.length + M3.weight ks + 0 + _ ≤ _ ∧ t.size + dtN ks + 0 + _ ≤ _
        omega
    · rw [M3.weight_nil, dt_nil]; omega

theorem fit_steadyQ (l : List Nd) : ∀ q, FitN l → dtN l ≤ 268435456 → FitN (M6.steadyQ q l) := by
  induction l using Nd.ind with
  | h0 => intro q _ _; rw [M6.steadyQ_nil]; exact fitN_nil
  | h1 k n a t ks r ih1 ih2 =>
    intro q hf hd
    obtain ⟨f1, f2, f3⟩ := fitN_cons.1 hf
    rw [dt_cons] at hd
    have hd : t.size + dtN ks + dtN r ≤ 268435456 := hd
    have f2 : FitN ks := f2
    rw [M6.steadyQ_cons]
    refine fitN_append.2 ⟨?_, ih2 q f3 (by omega)⟩
    split
    · obtain ⟨k1, k2⟩ := steadyQ_sizes ks (M6.fitsB n)
      have h1 := Nat.le_trans (weight_filter (M6.fitsB n) _) (Nat.le_trans (weight_merge _) k1)
      have h3 := txt_dt (M6.steadyQ (M6.fitsB n) ks)
      refine fitN_cons.2 ⟨?_, ?_, fitN_nil⟩
      · obtain ⟨e1, e2, e3, e4⟩ := f1
        unfold M6.oneN
        split
        · refine ⟨e1, e2, e3, ?_⟩
          have e4 : 1 + a.length + M3.weight ks ≤ 1000000 := e4
          show 1 + a.length + M3.weight ((M3.merge (M6.steadyQ (M6.fitsB n) ks)).filter (M6.fitsB n)) ≤ _
          omega
        · exact ⟨e1, e2, e3, e4⟩
      · unfold M6.oneN
        split
        · show FitN ((M3.merge (M6.steadyQ (M6.fitsB n) ks)).filter (M6.fitsB n))
          exact fit_filter _ (fit_merged (ih1 (M6.fitsB n) f2 (by omega)) (by omega))
        · exact f2
    · exact fitN_nil

theorem steady_sizes (l : List Nd) : M3.weight (M6.steady l) ≤ M3.weight l ∧ dtN (M6.steady l) ≤ dtN l :=
  ⟨Nat.le_trans (weight_merge _) (steadyQ_sizes l _).1, Nat.le_trans (dt_merge _) (steadyQ_sizes l _).2⟩

theorem fit_steady {l : List Nd} (h : FitN l) (hd : dtN l ≤ 268435456) : FitN (M6.steady l) := by
  have h1 := txt_dt (M6.steadyQ (fun _ => true) l)
  have h2 := (steadyQ_sizes l (fun _ => true)).2
  exact fit_merged (fit_steadyQ l _ h hd) (by omega)

theorem dt_goodN (l : List Nd) : Sm30 l → dtN (M3.goodN l) ≤ M3.weight l * 120 := by
  induction l using Nd.ind with
  | h0 => intro _; rw [M3.goodN_nil, dt_nil]; exact Nat.zero_le _
  | h1 k n ats t ks r ih1 ih2 =>
    intro hs
    obtain ⟨s1, s2, s3⟩ := sm_cons.1 hs
    have h2 := ih2 s3
    have h1 := Nat.le_trans (dt_merge (M3.goodN ks)) (ih1 s2)
    rw [M3.goodN_cons, M3.good1_mk, dt_cons, M3.weight_cons]
    have hw : (1 + (Nd.mk k n ats t ks).attrs.length + M3.weight (Nd.mk k n ats t ks).kids + M3.weight r) * 120 = 120 + ats.length * 120 + M3.weight ks * 120 + M3.weight r * 120 := by
      show (1 + ats.length + M3.weight ks + M3.weight r) * 120 = _
      omega
    rw [hw]
    split
    · show 0 + dtN (M3.merge (M3.goodN ks)) + _ ≤ _
      omega
    · have h6 := M3.rightN_size t
      have h7 : t.size ≤ 30 := s1.2.1
      show (M3.rightN t).size + dtN [] + _ ≤ _
      rw [dt_nil]
      omega

theorem dt_gd (l : List Nd) : dtN (gdN l) ≤ 28800 := by
  have h1 := Nat.le_trans (dt_merge _) (dt_goodN (fewN l) (few_sm l))
  have h2 := fewN_weight l
  have h3 : dtN (gdN l) ≤ M3.weight (fewN l) * 120 := h1
  omega
end Go.Proofs.Ytbnfaijkmbgpmaa

/- Reference 6: nodes that fit; nodes made stable. -/
namespace Go.Proofs.Ytbnfaijkmbgpmaa
open Go.RowKit

/-- Nodes that a call hands back, in rows of S or its own. -/
def ShrPost (S : Nat → Prop) (l : List Nd) (w : World) (e : Ending) (w' : World) : Prop := ∃ v', e = .returned v' ∧ RepN (fun b => S b ∨ (w.heap.size ≤ b ∧ b < w'.heap.size)) w' v' l ∧ Below w.heap.size w w'

theorem ShrPost.of_row {S : Nat → Prop} {w w' : World} {v' : Value} {L : List NV} (hS : ∀ b, S b → b < w.heap.size) (hown : w'.ownsRow w.heap.size 32 5 v' L.length (cellsV L)) (hb : Below w.heap.size w w') (hL : ∀ b ∈ L, RepV S w b.x b.va b.vk) : RepN (fun b => S b ∨ (w.heap.size ≤ b ∧ b < w'.heap.size)) w' v' (L.map NV.x) :=
  ⟨cellsV L, by rw [List.length_map]; exact Row.own hown (fun g hg => Or.inr (hown.lt g hg)), RepC.of_nv (fun b hb' => ((hL b hb').below hS hb).mono (fun c hc => Or.inl hc))⟩

theorem fitV_snoc (q : Nd → Bool) (L : List NV) (b : NV) : ((L ++ [b]).filter fun b => q b.x) = if q b.x = true then (L.filter fun b => q b.x) ++ [b] else L.filter fun b => q b.x := by
  rw [List.filter_append]
  cases h : q b.x <;> simp [h]

theorem fitV_map (q : Nd → Bool) (L : List NV) : (L.filter fun b => q b.x).map NV.x = (L.map NV.x).filter q := by
  rw [List.filter_map]; rfl

set_option maxHeartbeats 4000000 in
set_option maxRecDepth 100000 in
theorem ref06fittingV (S : Nat → Prop) (v : Value) (p : ByteArray) (L : List NV) (w : World) (hS : ∀ b, S b → b < w.heap.size) (hr : Row S w 5 v L.length (cellsV L)) (hok : ∀ b ∈ L, b.ok ∧ b.x.text.size ≤ 268435456) (hl : L.length ≤ 1000000) (hp : p.size ≤ 268435456) :
    Calls Try.prog 42 #[.string p, v] w (ShPost (L.filter fun b => M6.fitsB p b.x) w) := by
  obtain ⟨a, cap, rfl⟩ := hr.slice
  obtain ⟨_, hlc, hcm⟩ := hr.len
  replace hok := Lib.hid hok
  obtain ⟨wo, rfl⟩ : ∃ wo : World, wo = w := ⟨_, rfl⟩
  go_enter Try.func42, Try.ntmps42
  go_wp2_with (fail)
  go_loopw [5, 6, 7] (fun u5 u6 _ wr => ∃ (i : Nat) (A : List NV), i ≤ L.length ∧ u6 = .int .i64 (i : Int) ∧ Hid (A = (L.take i).filter fun b => M6.fitsB p b.x) ∧ wr.ownsRow wo.heap.size 32 5 u5 A.length (cellsV A) ∧ Below wo.heap.size wo wr) (fun _ u6 _ _ => L.length - (intOf u6).toNat)
  case atStart => exact ⟨0, [], by omega, rfl, rfl, World.ownsRow_nil _ _ _ _, Below.refl _ _⟩
  case round =>
    obtain ⟨i, A, hi, rfl, hA, hown, hb⟩ := hrel
    have hz := hb.size
    have hAl : A.length ≤ 1000000 := by rw [hA.out]; have := List.length_filter_le (fun b => M6.fitsB p b.x) (L.take i); have := List.length_take_le i L; omega
    by_cases hlt : i < L.length
    · obtain ⟨b, off, rfl, hSb, c0, c1, c2, c3, c4⟩ := (hr.below hS hb).atV i hlt
      have hbl := hS b hSb
      have htk : L.take (i + 1) = L.take i ++ [L[i]] := List.take_succ_eq_append_getElem hlt
      have hA2 : Hid (((L.take (i + 1)).filter fun b => M6.fitsB p b.x) = if M6.fitsB p L[i].x = true then A ++ [L[i]] else A) := by show _ = _; rw [htk, fitV_snoc, hA.out]
      obtain ⟨hkx, hkt⟩ := hok.out _ (List.getElem_mem hlt)
      clear hA htk
      generalize L[i] = x at *
      obtain ⟨⟨k, n, ats, t, ks⟩, va, vk⟩ := x
      obtain ⟨⟨a1, e1, hva⟩, a2, e2, hvk⟩ := hkx
      simp only [Nd.kind, Nd.name, Nd.text, Nd.attrs, Nd.kids] at c0 c1 c2 c3 c4 hva hvk
      subst hva
      subst hvk
      have hF := fun W => ref06Fits p (.mk k n ats t ks) (.slice a1 ats.length e1) (.slice a2 ks.length e2) W ⟨_, _, _, rfl⟩ ⟨_, _, _, rfl⟩ hp hkt
      change ∀ W, Calls Try.prog 16 #[.string p, .agg #[.int .i64 k, .string n, .slice a1 ats.length e1, .string t, .slice a2 ks.length e2]] W (BoolB _ W) at hF
      obtain ⟨q, hq⟩ : ∃ q, M6.fitsB p (.mk k n ats t ks) = q := ⟨_, rfl⟩
      rw [hq] at hF hA2
      clear hq
      replace hF := Lib.hid hF
      have hI0 : (0 : Int) ≤ (i : Int) := by omega
      have hI1 : (i : Int) < (L.length : Int) := by omega
      go_wp2_with (fail)
      refine (hF.out _).mono ?_
      rintro e w2 ⟨rfl, hb2⟩
      have hb3 := hb.trans (hb2.mono hz)
      have hown2 := own_below3 hown hb2
      have hz3 := hb3.size
      have d0 := cell_of_below hb2 c0 (by omega)
      have d1 := cell_of_below hb2 c1 (by omega)
      have d2 := cell_of_below hb2 c2 (by omega)
      have d3 := cell_of_below hb2 c3 (by omega)
      have d4 := cell_of_below hb2 c4 (by omega)
      clear c0 c1 c2 c3 c4 hF hown hb
      cases q
      · rw [if_neg Bool.false_ne_true] at hA2
        go_wp2_with (fail)
        go_roundw
        case rel => exact ⟨i + 1, A, by omega, by go_num, Lib.hid hA2.out.symm, hown2, hb3⟩
        case measure => exact meas_nat hlt
      · rw [if_pos rfl] at hA2
        go_wp2_with (at_builtin; refine wpList_appK _ [.int .i64 k, .string n, .slice a1 ats.length e1, .string t, .slice a2 ks.length e2] 5 rfl _ _ 27 32 rfl wo.heap.size Try.underlying27 infoN rfl (by omega) _ A.length (cellsV A) rfl hown2 _ rfl rfl rfl (five_one _ _ _ _ _ _ _ _ _) (by omega) (by omega) (by omega) ?_; intro g cp w3 hown3 hgrow3 hat3)
        have hb4 := below_own hb3 hown2 hgrow3 hz3 (Nat.le_refl _)
        have hown4 : w3.ownsRow wo.heap.size 32 5 (.slice (some ⟨g, 0, none⟩) (A.length + 1) cp) (A ++ [(⟨.mk k n ats t ks, .slice a1 ats.length e1, .slice a2 ks.length e2⟩ : NV)]).length (cellsV (A ++ [(⟨.mk k n ats t ks, .slice a1 ats.length e1, .slice a2 ks.length e2⟩ : NV)])) := by
          rw [cellsV_snoc, List.length_append]; exact hown3
        clear hown3 hgrow3 hat3
        go_roundw
        case rel => exact ⟨i + 1, A ++ [(⟨.mk k n ats t ks, .slice a1 ats.length e1, .slice a2 ks.length e2⟩ : NV)], by omega, by go_num, Lib.hid hA2.out.symm, hown4, hb4⟩
        case measure => exact meas_nat hlt
    · obtain rfl : i = L.length := by omega
      rw [List.take_length] at hA
      go_wp2_with (fail)
      go_ret
      exact ⟨u5, rfl, by rw [← hA.out]; exact hown, hb⟩

theorem ref06fitting (S : Nat → Prop) (v : Value) (p : ByteArray) (l : List Nd) (w : World) (hS : ∀ b, S b → b < w.heap.size) (hr : RepN S w v l) (hf : FitN l) (hl : l.length ≤ 1000000) (hp : p.size ≤ 268435456) :
    Calls Try.prog 42 #[.string p, v] w (ShrPost S (l.filter (M6.fitsB p)) w) := by
  obtain ⟨xs, hrow, hrc⟩ := hr
  obtain ⟨L, rfl, rfl, hL⟩ := RepC.nv _ _ hrc
  rw [List.length_map] at hrow hl
  refine (ref06fittingV S v p L w hS hrow (fun b hb => ⟨(hL b hb).ok, (fitN_iff.1 hf b.x (List.mem_map_of_mem hb)).1.2.1⟩) hl hp).mono ?_
  rintro e w1 ⟨v1, rfl, hown, hb⟩
  refine ⟨v1, rfl, ?_, hb⟩
  rw [← fitV_map]
  exact ShrPost.of_row hS hown hb (fun b hb' => hL b (List.mem_filter.1 hb').1)

theorem ref03MergeS (S : Nat → Prop) (v : Value) (l : List Nd) (w : World) (hS : ∀ b, S b → b < w.heap.size) (hr : RepN S w v l) (hl : l.length ≤ 1000000) (ht : txtN l ≤ 1073741824) :
    Calls Try.prog 43 #[v] w (ShrPost S (M3.merge l) w) := by
  obtain ⟨xs, hrow, hrc⟩ := hr
  obtain ⟨L, rfl, rfl, hL⟩ := RepC.nv _ _ hrc
  rw [List.length_map] at hrow hl
  refine (ref03MergeV S v L w hS hrow (fun b hb => (hL b hb).ok) hl (by rw [txtV_map]; exact ht)).mono ?_
  rintro e w1 ⟨v1, rfl, hown, hb⟩
  refine ⟨v1, rfl, ?_, hb⟩
  rw [← mergeV_map]
  refine ShrPost.of_row hS hown hb ?_
  have key : ∀ (l out : List NV), (∀ b ∈ l, RepV S w b.x b.va b.vk) → (∀ b ∈ out, RepV S w b.x b.va b.vk) → ∀ b ∈ l.foldl pushV out, RepV S w b.x b.va b.vk := by
    intro l
    induction l with
    | nil => intro out _ ho; exact ho
    | cons x r ih =>
      intro out hl ho
      rw [List.foldl_cons]
      refine ih _ (fun z hz => hl z (by simp [hz])) ?_
      have hx := hl x (by simp)
      cases hb : bareV x
      · rcases List.eq_nil_or_concat out with rfl | ⟨o, y, rfl⟩
        · rw [pushV_nil hb]; simpa using hx
        · rw [List.concat_eq_append] at ho ⊢
          rw [pushV_snoc hb]
          have hy := ho y (by simp)
          split
          · intro z hz
            rcases List.mem_append.1 hz with hz | hz
            · exact ho z (by simp [hz])
            · simp at hz; subst hz
              exact ⟨by show Row _ _ _ _ (M3.withText y.x _).attrs.length (cellsA (M3.withText y.x _).attrs); rw [M3.withText_attrs]; exact hy.1, by show RepN _ _ _ (M3.withText y.x _).kids; rw [M3.withText_kids]; exact hy.2⟩
          · intro z hz
            rcases List.mem_append.1 hz with hz | hz
            · exact ho z hz
            · simp at hz; subst hz; exact hx
      · rw [pushV_bare hb]; exact ho
  exact key L [] hL (fun b h => by cases h)
end Go.Proofs.Ytbnfaijkmbgpmaa

/- Reference 6: Steady. -/
namespace Go.Proofs.Ytbnfaijkmbgpmaa
open Go.RowKit

theorem steadyQ_append (q : Nd → Bool) (a b : List Nd) : M6.steadyQ q (a ++ b) = M6.steadyQ q a ++ M6.steadyQ q b := by
  induction a with
  | nil => rw [M6.steadyQ_nil]; rfl
  | cons x r ih => rw [List.cons_append, M6.steadyQ_cons, M6.steadyQ_cons, ih, List.append_assoc]

theorem steadyQ_take (l : List Nd) (i : Nat) (h : i < l.length) : M6.steadyQ (fun _ => true) (l.take (i + 1)) = M6.steadyQ (fun _ => true) (l.take i) ++ (if M6.remB l[i] = true then [] else [M6.oneN l[i]]) := by
  rw [List.take_succ_eq_append_getElem h, steadyQ_append, M6.steadyQ_cons, M6.steadyQ_nil, List.append_nil, Bool.true_and]
  cases M6.remB l[i] <;> rfl

theorem steady_fit (q : Nd → Bool) (l : List Nd) : (M6.steady (l.filter q)).filter q = (M3.merge (M6.steadyQ q l)).filter q := by
  unfold M6.steady
  rw [← M6.steadyQ_filter]

/-- Blocks of S, or made since. -/
def Sh (S : Nat → Prop) (w0 W : World) : Nat → Prop := fun b => S b ∨ (w0.heap.size ≤ b ∧ b < W.heap.size)

/-- Three calls, one behind the other, and a store of the last one's answer. -/
def StI (S : Nat → Prop) (w0 : World) (bx : Nat) (K : Nat → List Nd) (f : Nat → Bool) (t : Nat → Value) (W : World) : Prop :=
  (f 10 = false → Below w0.heap.size w0 W ∧ ∀ j, 6 ≤ j → j ≤ 8 → f j = true → RepN (Sh S w0 W) W (t j) (K j)) ∧
  (f 10 = true → (∀ j, j < 10 → f j = true) ∧ ∃ W0, Below w0.heap.size w0 W0 ∧ RepN (Sh S w0 W0) W0 (t 8) (K 8) ∧ W = W0.setCell ⟨bx, 4, none⟩ (t 8))

section
variable {S : Nat → Prop} {w0 W : World} {bx : Nat} {K : Nat → List Nd} {f : Nat → Bool} {t : Nat → Value}

theorem StI.start (S : Nat → Prop) (w0 : World) (bx : Nat) (K : Nat → List Nd) (t : Nat → Value) : StI S w0 bx K (fun j => decide (11 ≤ j)) t w0.drew :=
  ⟨fun _ => ⟨(Below.refl _ w0).drew, fun j h6 h8 h => by simp at h; omega⟩, fun h => by simp at h⟩

theorem StI.notlast (h : StI S w0 bx K f t W) {j : Nat} (hj : j < 11) (hf : f j = false) : f 10 = false := by
  cases h10 : f 10
  · rfl
  · rcases Nat.lt_or_ge j 10 with hl | hl
    · have := (h.2 h10).1 j hl
      rw [hf] at this
      cases this
    · obtain rfl : j = 10 := by omega
      rw [h10] at hf
      cases hf

theorem StI.same (h : StI S w0 bx K f t W) (j : Nat) (v : Value) (h1 : j < 6 ∨ j = 9) : StI S w0 bx K (updF f j) (updT t j v) W := by
  refine ⟨fun e => ?_, fun e => ?_⟩
  · rw [updF_ne f (by omega)] at e
    refine ⟨(h.1 e).1, fun k h6 h8 hk => ?_⟩
    rw [updF_ne f (by omega)] at hk
    rw [updT_ne _ _ (by omega)]
    exact (h.1 e).2 k h6 h8 hk
  · rw [updF_ne f (by omega)] at e
    obtain ⟨e1, e2⟩ := h.2 e
    rw [updT_ne _ _ (by omega)]
    exact ⟨fun k hk => by unfold updF; split; rfl; exact e1 k hk, e2⟩

theorem StI.call (h : StI S w0 bx K f t W) (h10 : f 10 = false) (hS : ∀ b, S b → b < w0.heap.size) {j : Nat} (h6 : 6 ≤ j) (h8 : j ≤ 8) {W' : World} {v : Value} (hv : RepN (fun b => Sh S w0 W b ∨ (W.heap.size ≤ b ∧ b < W'.heap.size)) W' v (K j)) (hb : Below W.heap.size W W') : StI S w0 bx K (updF f j) (updT t j v) W' := by
  obtain ⟨q1, q2⟩ := h.1 h10
  have hz := q1.size
  have hz2 := hb.size
  refine ⟨fun _ => ⟨bt q1 hb, fun k k6 k8 hk => ?_⟩, fun e => ?_⟩
  · by_cases e : k = j
    · subst e
      rw [updT_same]
      refine hv.mono (fun b hb' => ?_)
      rcases hb' with (hb' | hb') | hb'
      · exact Or.inl hb'
      · exact Or.inr ⟨hb'.1, by omega⟩
      · exact Or.inr ⟨by omega, hb'.2⟩
    · rw [updF_ne f e] at hk
      rw [updT_ne _ _ e]
      refine (RepN.below (q2 k k6 k8 hk) (fun b hb' => ?_) hb).mono (fun b hb' => ?_)
      · rcases hb' with hb' | hb'
        · have := hS b hb'; omega
        · exact hb'.2
      · rcases hb' with hb' | hb'
        · exact Or.inl hb'
        · exact Or.inr ⟨hb'.1, by omega⟩
  · rw [updF_ne f (by omega), h10] at e
    cases e

theorem StI.put (h : StI S w0 bx K f t W) (h10 : f 10 = false) (hall : ∀ j, j < 10 → f j = true) (v : Value) : StI S w0 bx K (updF f 10) (updT t 10 v) (W.setCell ⟨bx, 4, none⟩ (t 8)) := by
  obtain ⟨q1, q2⟩ := h.1 h10
  refine ⟨fun e => by simp at e, fun _ => ⟨fun k hk => by unfold updF; split; rfl; exact hall k hk, W, q1, ?_, ?_⟩⟩
  · rw [updT_ne _ _ (by omega)]; exact q2 8 (by omega) (by omega) (hall 8 (by omega))
  · rw [updT_ne _ _ (by omega)]
end

def K3 (l1 l2 l3 : List Nd) (j : Nat) : List Nd := bif j == 6 then l1 else bif j == 7 then l2 else l3

/-- Nodes that are shared, beside a row that grows. -/
def ShV (S : Nat → Prop) (B : Nat) (u : Value) (W : World) : Nat → Prop := fun c => (S c ∨ (B ≤ c ∧ c < W.heap.size)) ∧ u.ownBlock ≠ some c

theorem shv_grow {S : Nat → Prop} {B g n cap : Nat} {u : Value} {W w3 : World} {A : List NV} (hS : ∀ b, S b → b < B) (hB : B ≤ W.heap.size) (h : ∀ b ∈ A, RepV (ShV S B u W) W b.x b.va b.vk) (hgrow : W.grownBy w3 u.ownBlock) (hat : u.ownBlock = some g ∨ W.heap.size ≤ g) :
    ∀ b ∈ A, RepV (ShV S B (.slice (some ⟨g, 0, none⟩) n cap) w3) w3 b.x b.va b.vk := by
  intro b hb
  have hz := hgrow.size
  have hlt : ∀ c, ShV S B u W c → c < W.heap.size := fun c hc => by
    rcases hc.1 with hc | hc
    · have := hS c hc; omega
    · exact hc.2
  refine ((h b hb).keep (w' := w3) (fun c hc => hgrow.block c (hlt c hc) (fun e => hc.2 e.symm))).mono (fun c hc => ⟨?_, fun e => ?_⟩)
  · rcases hc.1 with hc | hc
    · exact Or.inl hc
    · exact Or.inr ⟨hc.1, by omega⟩
  · have e : g = c := by simpa [Value.ownBlock] using e
    rcases hat with h | h
    · exact hc.2 (by rw [h, e])
    · have := hlt c hc; omega

theorem shv_below {S : Nat → Prop} {B : Nat} {u : Value} {wr W : World} {A : List NV} (hS : ∀ b, S b → b < B) (hB : B ≤ wr.heap.size) (h : ∀ b ∈ A, RepV (ShV S B u wr) wr b.x b.va b.vk) (hb : Below wr.heap.size wr W) :
    ∀ b ∈ A, RepV (ShV S B u W) W b.x b.va b.vk := by
  intro b hm
  have hz := hb.size
  refine ((h b hm).below (fun c hc => ?_) hb).mono (fun c hc => ⟨?_, hc.2⟩)
  · rcases hc.1 with hc | hc
    · have := hS c hc; omega
    · exact hc.2
  · rcases hc.1 with hc | hc
    · exact Or.inl hc
    · exact Or.inr ⟨hc.1, by omega⟩

theorem ownB_ne {w : World} {B : Nat} {e : TypeId} {k n : Nat} {v : Value} {xs : List Value} (h : w.ownsRow B e k v n xs) {c : Nat} (hc : c < B ∨ w.heap.size ≤ c) : v.ownBlock ≠ some c := fun e => by
  have := h.lt c e
  omega

set_option maxHeartbeats 8000000 in
set_option maxRecDepth 100000 in
theorem ref06Steady (wt : Nat) : ∀ (S : Nat → Prop) (v : Value) (l : List Nd) (w : World), M3.weight l < wt → M3.weight l ≤ 1000000 → FitN l → dtN l ≤ 268435456 → (∀ b, S b → b < w.heap.size) → RepN S w v l →
    Calls Try.prog 23 #[v] w (ShrPost S (M6.steady l) w) := by
  induction wt with
  | zero => intro S v l w h; omega
  | succ wt ih =>
  intro S v l w hwt hw6 hfit hdt hS hr
  obtain ⟨a, cap, rfl⟩ := hr.slice
  obtain ⟨_, hlc, hcm⟩ := hr.len
  have hll := M3.length_le_weight l
  replace ih := Lib.hid ih
  have h0 : Hid (([] : List NV).map NV.x = M6.steadyQ (fun _ => true) (l.take 0)) := by show _ = _; rw [List.take_zero, M6.steadyQ_nil]; rfl
  replace hfit := Lib.hid hfit
  obtain ⟨wo, rfl⟩ : ∃ wo : World, wo = w := ⟨_, rfl⟩
  go_enter Try.func23, Try.ntmps23
  go_wp2_with fail
  go_loopw [3, 4, 5] (fun u3 u4 _ wr => ∃ (i : Nat) (A : List NV), i ≤ l.length ∧ u4 = .int .i64 (i : Int) ∧ Hid (A.map NV.x = M6.steadyQ (fun _ => true) (l.take i)) ∧ wr.ownsRow wo.heap.size 32 5 u3 A.length (cellsV A) ∧ (∀ b ∈ A, RepV (ShV S wo.heap.size u3 wr) wr b.x b.va b.vk) ∧ Below wo.heap.size wo wr) (fun _ u4 _ _ => l.length - (intOf u4).toNat)
  case atStart => exact ⟨0, [], by omega, rfl, h0, World.ownsRow_nil _ _ _ _, (fun b h => nomatch h), Below.refl _ _⟩
  case round =>
    obtain ⟨i, A, hi, rfl, hA, hown, hAr, hb⟩ := hrel
    have hz := hb.size
    have hAl : A.length ≤ 1000000 := by
      have h1 : A.length = (M6.steadyQ (fun _ => true) (l.take i)).length := by rw [← hA.out, List.length_map]
      have h2 := M3.length_le_weight (M6.steadyQ (fun _ => true) (l.take i))
      have h3 := (steadyQ_sizes (l.take i) (fun _ => true)).1
      have h4 : M3.weight l = M3.weight (l.take i) + M3.weight (l.drop i) := by rw [← M3.weight_append, List.take_append_drop]
      omega
    replace hAr := Lib.hid hAr
    by_cases hlt : i < l.length
    · have hr1 := hr.below hS hb
      obtain ⟨b, off, va, vk, rfl, hSb, c0, c1, c2, c3, c4, hrv⟩ := hr1.at_ i hlt
      have hbl := hS b hSb
      have hmd := (steadyQ_take l i hlt).trans (by rw [← hA.out])
      obtain ⟨hf1, hf2⟩ := fitN_iff.1 hfit.out _ (List.getElem_mem hlt)
      have hwk := weight_le (List.getElem_mem hlt)
      have hdk := dt_mem (List.getElem_mem hlt)
      generalize l[i] = x at *
      obtain ⟨k, n, ats, tx, ks⟩ := x
      simp only [Nd.kind, Nd.name, Nd.text, Nd.attrs, Nd.kids] at c0 c1 c2 c3 c4 hwk hdk hf2
      obtain ⟨a1, e1, hva⟩ := hrv.at_.slice
      obtain ⟨a2, e2, hvk⟩ := hrv.kids.slice
      simp only [Nd.attrs, Nd.kids] at hva hvk
      subst hva
      subst hvk
      have hH := Lib.hid (fun W => ref06has tx ⟨#[45, 45, 62]⟩ W (by have := hf1.2.1; have h : tx.size ≤ 268435456 := this; omega) (by decide) (by decide))
      have hrm0 : M6.remB (.mk k n ats tx ks) = ((k == 3) && M6.hasB [45, 45, 62] tx.data.toList) := rfl
      clear hA hr1
      have hI0 : (0 : Int) ≤ (i : Int) := by omega
      have hI1 : (i : Int) < (l.length : Int) := by omega
      have bx := Box.new wr 32 [.int .i64 k, .string n, .slice a1 ats.length e1, .string tx, .slice a2 ks.length e2]
      have hbx : Below wr.heap.size wr (wr.alloc (.cells #[.int .i64 k, .string n, .slice a1 ats.length e1, .string tx, .slice a2 ks.length e2] 32)) := (Below.refl _ wr).alloc (Nat.le_refl _) _
      have hsz : (wr.alloc (.cells #[.int .i64 k, .string n, .slice a1 ats.length e1, .string tx, .slice a2 ks.length e2] 32)).heap.size = wr.heap.size + 1 := by simp
      cases hk1 : (k == 1)
      · -- no element
        have hone : M6.oneN (.mk k n ats tx ks) = .mk k n ats tx ks := by unfold M6.oneN; rw [if_neg (by show ¬ k = 1; simpa using hk1)]
        rw [hone] at hmd
        clear hone
        cases hrm : M6.remB (.mk k n ats tx ks)
        · rw [hrm, if_neg Bool.false_ne_true] at hmd
          have hnext : Hid ((A ++ [(⟨.mk k n ats tx ks, .slice a1 ats.length e1, .slice a2 ks.length e2⟩ : NV)]).map NV.x = M6.steadyQ (fun _ => true) (l.take (i + 1))) := by show _ = _; rw [hmd, List.map_append]; rfl
          clear hmd
          replace hsz := Lib.hid hsz
          cases hk3 : (k == 3)
          · have hbW := hbx
            replace hAr := hAr.out
            clear hH bx
            have hz5 := hbW.size
            have hown5 := own_below3 hown (hbW)
            have hA5 := Lib.hid (shv_below hS hz hAr hbW)
            have hbo := bt hb hbW
            have hzo := hbo.size
            replace hAr := Lib.hid hAr
            go_wp2_with (at_builtin; refine wpList_appK _ [.int .i64 k, .string n, .slice a1 ats.length e1, .string tx, .slice a2 ks.length e2] 5 rfl _ _ 27 32 rfl wo.heap.size Try.underlying27 infoN rfl (by omega) _ A.length (cellsV A) rfl hown5 (wr.heap.size + 1) hsz.out (by rfl) rfl (five_one _ _ _ _ _ _ _ _ _) (by omega) (by omega) hzo ?_; intro g cp w6 hown6 hgrow6 hat6)
            have hb6 := below_own hbo hown5 hgrow6 hzo (Nat.le_refl _)
            have hA6 := shv_grow (n := A.length + 1) (cap := cp) hS hzo hA5.out hgrow6 hat6
            have hx6 := shv_grow (A := [(⟨.mk k n ats tx ks, .slice a1 ats.length e1, .slice a2 ks.length e2⟩ : NV)]) (n := A.length + 1) (cap := cp) hS hzo (fun b hb => by
              rw [List.mem_singleton] at hb
              subst hb
              exact ⟨((hrv.at_).below (fun c hc => by have := hS c hc; omega) hbW).mono (fun c hc => ⟨Or.inl hc, ownB_ne hown5 (Or.inl (hS c hc))⟩), (RepN.below hrv.kids (fun c hc => by have := hS c hc; omega) hbW).mono (fun c hc => ⟨Or.inl hc, ownB_ne hown5 (Or.inl (hS c hc))⟩)⟩) hgrow6 hat6
            have hown7 : w6.ownsRow wo.heap.size 32 5 (.slice (some ⟨g, 0, none⟩) (A.length + 1) cp) (A ++ [(⟨.mk k n ats tx ks, .slice a1 ats.length e1, .slice a2 ks.length e2⟩ : NV)]).length (cellsV (A ++ [(⟨.mk k n ats tx ks, .slice a1 ats.length e1, .slice a2 ks.length e2⟩ : NV)])) := by
              rw [cellsV_snoc, List.length_append]; exact hown6
            have hA7 : ∀ b ∈ A ++ [(⟨.mk k n ats tx ks, .slice a1 ats.length e1, .slice a2 ks.length e2⟩ : NV)], RepV (ShV S wo.heap.size (.slice (some ⟨g, 0, none⟩) (A.length + 1) cp) w6) w6 b.x b.va b.vk := fun b hb => by
              rcases List.mem_append.1 hb with hb | hb
              · exact hA6 b hb
              · exact hx6 b hb
            clear hown6 hgrow6 hat6 hA6 hx6 hown5 hA5
            replace hA7 := Lib.hid hA7
            go_roundw
            case rel => exact ⟨i + 1, A ++ [(⟨.mk k n ats tx ks, .slice a1 ats.length e1, .slice a2 ks.length e2⟩ : NV)], by omega, by go_num, hnext, hown7, hA7.out, hb6⟩
            case measure => exact meas_nat hlt
          · rw [hrm0, hk3, Bool.true_and] at hrm
            have hH := hH.out
            change ∀ W, Calls _ _ _ W fun e w' => e = .returned (.bool (M6.hasB [45, 45, 62] tx.data.toList)) ∧ W = w' at hH
            rw [hrm] at hH
            replace hH := Lib.hid hH
            go_wp2_with fail
            refine (hH.out _).mono ?_
            rintro e w2 ⟨rfl, rfl⟩
            have hbW := hbx
            replace hAr := hAr.out
            clear hH bx
            have hz5 := hbW.size
            have hown5 := own_below3 hown (hbW)
            have hA5 := Lib.hid (shv_below hS hz hAr hbW)
            have hbo := bt hb hbW
            have hzo := hbo.size
            replace hAr := Lib.hid hAr
            go_wp2_with (at_builtin; refine wpList_appK _ [.int .i64 k, .string n, .slice a1 ats.length e1, .string tx, .slice a2 ks.length e2] 5 rfl _ _ 27 32 rfl wo.heap.size Try.underlying27 infoN rfl (by omega) _ A.length (cellsV A) rfl hown5 (wr.heap.size + 1) hsz.out (by rfl) rfl (five_one _ _ _ _ _ _ _ _ _) (by omega) (by omega) hzo ?_; intro g cp w6 hown6 hgrow6 hat6)
            have hb6 := below_own hbo hown5 hgrow6 hzo (Nat.le_refl _)
            have hA6 := shv_grow (n := A.length + 1) (cap := cp) hS hzo hA5.out hgrow6 hat6
            have hx6 := shv_grow (A := [(⟨.mk k n ats tx ks, .slice a1 ats.length e1, .slice a2 ks.length e2⟩ : NV)]) (n := A.length + 1) (cap := cp) hS hzo (fun b hb => by
              rw [List.mem_singleton] at hb
              subst hb
              exact ⟨((hrv.at_).below (fun c hc => by have := hS c hc; omega) hbW).mono (fun c hc => ⟨Or.inl hc, ownB_ne hown5 (Or.inl (hS c hc))⟩), (RepN.below hrv.kids (fun c hc => by have := hS c hc; omega) hbW).mono (fun c hc => ⟨Or.inl hc, ownB_ne hown5 (Or.inl (hS c hc))⟩)⟩) hgrow6 hat6
            have hown7 : w6.ownsRow wo.heap.size 32 5 (.slice (some ⟨g, 0, none⟩) (A.length + 1) cp) (A ++ [(⟨.mk k n ats tx ks, .slice a1 ats.length e1, .slice a2 ks.length e2⟩ : NV)]).length (cellsV (A ++ [(⟨.mk k n ats tx ks, .slice a1 ats.length e1, .slice a2 ks.length e2⟩ : NV)])) := by
              rw [cellsV_snoc, List.length_append]; exact hown6
            have hA7 : ∀ b ∈ A ++ [(⟨.mk k n ats tx ks, .slice a1 ats.length e1, .slice a2 ks.length e2⟩ : NV)], RepV (ShV S wo.heap.size (.slice (some ⟨g, 0, none⟩) (A.length + 1) cp) w6) w6 b.x b.va b.vk := fun b hb => by
              rcases List.mem_append.1 hb with hb | hb
              · exact hA6 b hb
              · exact hx6 b hb
            clear hown6 hgrow6 hat6 hA6 hx6 hown5 hA5
            replace hA7 := Lib.hid hA7
            go_roundw
            case rel => exact ⟨i + 1, A ++ [(⟨.mk k n ats tx ks, .slice a1 ats.length e1, .slice a2 ks.length e2⟩ : NV)], by omega, by go_num, hnext, hown7, hA7.out, hb6⟩
            case measure => exact meas_nat hlt
        · rw [hrm, if_pos rfl, List.append_nil] at hmd
          rw [hrm0, Bool.and_eq_true] at hrm
          obtain ⟨hk3, hrm⟩ := hrm
          have hH := hH.out
          change ∀ W, Calls _ _ _ W fun e w' => e = .returned (.bool (M6.hasB [45, 45, 62] tx.data.toList)) ∧ W = w' at hH
          rw [hrm] at hH
          replace hH := Lib.hid hH
          replace hmd := Lib.hid hmd.symm
          go_wp2_with fail
          refine (hH.out _).mono ?_
          rintro e w2 ⟨rfl, rfl⟩
          have hA5 := Lib.hid (shv_below hS hz hAr.out hbx)
          have hown5 := own_below3 hown hbx
          have hbo := bt hb hbx
          go_wp2_with fail
          go_roundw
          case rel => exact ⟨i + 1, A, by omega, by go_num, hmd, hown5, hA5.out, hbo⟩
          case measure => exact meas_nat hlt
      · -- an element
        obtain rfl : k = 1 := by simpa using hk1
        have hrm : M6.remB (.mk 1 n ats tx ks) = false := rfl
        rw [hrm, if_neg Bool.false_ne_true] at hmd
        have hone : M6.oneN (.mk 1 n ats tx ks) = .mk 1 n ats tx ((M6.steady (ks.filter (M6.fitsB n))).filter (M6.fitsB n)) := by
          rw [steady_fit]
          rfl
        rw [hone] at hmd
        clear hone hrm hrm0
        have hwf := weight_filter (M6.fitsB n) ks
        have hdf := dt_filter (M6.fitsB n) ks
        have hff := fit_filter (M6.fitsB n) hf2
        have hsf := fit_steady hff (by omega)
        obtain ⟨hs1, hs2⟩ := steady_sizes (ks.filter (M6.fitsB n))
        have hlk := M3.length_le_weight ks
        have hls := M3.length_le_weight (M6.steady (ks.filter (M6.fitsB n)))
        have hn6 : n.size ≤ 268435456 := hf1.1
        have hkr : RepN S wr (.slice a2 ks.length e2) ks := hrv.kids
        have hF1 := Lib.hid (fun W (v : Value) (S' : Nat → Prop) (hS' : ∀ b, S' b → b < W.heap.size) (h : RepN S' W v ks) => ref06fitting S' v n ks W hS' h hf2 (by omega) hn6)
        have hF2 := Lib.hid (fun W (v : Value) (S' : Nat → Prop) (hS' : ∀ b, S' b → b < W.heap.size) (h : RepN S' W v (ks.filter (M6.fitsB n))) => ih.out S' v (ks.filter (M6.fitsB n)) W (by omega) (by omega) hff (by omega) hS' h)
        have hF3 := Lib.hid (fun W (v : Value) (S' : Nat → Prop) (hS' : ∀ b, S' b → b < W.heap.size) (h : RepN S' W v (M6.steady (ks.filter (M6.fitsB n)))) => ref06fitting S' v n (M6.steady (ks.filter (M6.fitsB n))) W hS' h hsf (by omega) hn6)
        generalize hl3 : (M6.steady (ks.filter (M6.fitsB n))).filter (M6.fitsB n) = l3 at *
        generalize M6.steady (ks.filter (M6.fitsB n)) = l2 at *
        generalize ks.filter (M6.fitsB n) = l1 at *
        clear hwf hdf hff hsf hs1 hs2 hls hl3
        go_wp2_with fail
        obtain ⟨w0, hw0⟩ : ∃ W, wr.alloc (.cells #[.int .i64 1, .string n, .slice a1 ats.length e1, .string tx, .slice a2 ks.length e2] 32) = W := ⟨_, rfl⟩
        change Box (wr.alloc (.cells #[.int .i64 1, .string n, .slice a1 ats.length e1, .string tx, .slice a2 ks.length e2] 32)) _ _ _ at bx
        rw [hw0] at bx hbx hsz ⊢
        clear hw0
        have p1 := bx.cell (i := 1) rfl
        have p4 := bx.cell (i := 4) rfl
        have f4 := bx.free 4
        have hSw : ∀ b, S b → b < w0.heap.size := fun b hb => by have := hS b hb; omega
        have hnext : ∀ A8 C8, Hid ((A ++ [(⟨.mk 1 n ats tx l3, .slice a1 ats.length e1, .slice A8 l3.length C8⟩ : NV)]).map NV.x = M6.steadyQ (fun _ => true) (l.take (i + 1))) := fun _ _ => by show _ = _; rw [hmd, List.map_append]; rfl
        clear hmd
        refine wp_region_known (n := 11) ([some (.pointer (some ⟨wr.heap.size, 1, none⟩)), some (.string n), some (.pointer (some ⟨wr.heap.size, 1, none⟩)), some (.string n), some (.pointer (some ⟨wr.heap.size, 4, none⟩)), some (.slice a2 ks.length e2), none, none, none, some (.pointer (some ⟨wr.heap.size, 4, none⟩)), none] : List (Option Value)) (fun t => ⟨#[Value.slice (some ⟨b, off, none⟩) l.length cap, undef, Value.slice none 0 0, u3, Value.int IntKind.i64 (i : Int), Value.pointer (some ⟨wr.heap.size, 0, none⟩), Value.int IntKind.i64 (i : Int), Value.slice (some ⟨b, off, none⟩) l.length cap, Value.int IntKind.i64 (l.length : Int), Value.bool true, u10, u11, Value.slice (some ⟨b, off, none⟩) l.length cap, Value.int IntKind.i64 (i : Int), Value.pointer (some ⟨b, off + i * 5, none⟩), Value.agg #[Value.int IntKind.i64 1, Value.string n, Value.slice a1 ats.length e1, Value.string tx, Value.slice a2 ks.length e2], Value.pointer (some ⟨wr.heap.size, 0, none⟩), Value.int IntKind.i64 1, Value.bool false, Value.bool false, undef, undef, undef, Value.bool false, Value.pointer (some ⟨wr.heap.size, 0, none⟩), Value.int IntKind.i64 1, Value.bool true, t 0, t 1, t 2, t 3, t 4, t 5, t 6, t 7, t 8, t 9, u37, u38, u39, u40, undef, undef], []⟩) (fun f t W => StI S w0 wr.heap.size (K3 l1 l2 l3) f t W) (fun j => match j with | 0 => u27 | 1 => u28 | 2 => u29 | 3 => u30 | 4 => u31 | 5 => u32 | 6 => u33 | 7 => u34 | 8 => u35 | 9 => u36 | _ => undef) (by kernel_rfl) (by rfl) (by rfl) (by kernel_rfl) rfl ?i0 ?step ?fin
        case i0 =>
          exact StI.start _ _ _ _ _
        case step =>
          intro j0 hj0 f t W hfi hwt hk2 hI
          have h10 := hI.notlast hj0 hfi
          obtain ⟨hlow, hKn⟩ := hI.1 h10
          have s1 := cell_of_below hlow p1 (by omega)
          have s4 := cell_of_below hlow p4 (by omega)
          have hlz := hlow.size
          obtain rfl | rfl | rfl | rfl | rfl | rfl | rfl | rfl | rfl | rfl | rfl : j0 = 0 ∨ j0 = 1 ∨ j0 = 2 ∨ j0 = 3 ∨ j0 = 4 ∨ j0 = 5 ∨ j0 = 6 ∨ j0 = 7 ∨ j0 = 8 ∨ j0 = 9 ∨ j0 = 10 := by omega
          · -- operation 0
            clear hKn hlow hlz h10
            replace hI := Lib.hid hI
            replace hk2 := Lib.hid hk2
            clear hwt
            refine wpOp_step rfl (fun K hK => ?_)
            go_simp
            exact hK _ _ ⟨_, by simp [updT], hk2.out.at_ rfl, hI.out.same _ _ (by decide)⟩
          · -- operation 1
            have e0 : t 0 = .pointer (some ⟨wr.heap.size, 1, none⟩) := hk2 0 _ (hwt 0 (by kernel_rfl)) rfl
            clear hKn hlow hlz h10
            replace hI := Lib.hid hI
            replace hk2 := Lib.hid hk2
            clear hwt
            refine wpOp_step rfl (fun K hK => ?_)
            go_simp
            exact hK _ _ ⟨_, by simp [updT, e0], hk2.out.at_ rfl, hI.out.same _ _ (by decide)⟩
          · -- operation 2
            clear hKn hlow hlz h10
            replace hI := Lib.hid hI
            replace hk2 := Lib.hid hk2
            clear hwt
            refine wpOp_step rfl (fun K hK => ?_)
            go_simp
            exact hK _ _ ⟨_, by simp [updT], hk2.out.at_ rfl, hI.out.same _ _ (by decide)⟩
          · -- operation 3
            have e2 : t 2 = .pointer (some ⟨wr.heap.size, 1, none⟩) := hk2 2 _ (hwt 2 (by kernel_rfl)) rfl
            clear hKn hlow hlz h10
            replace hI := Lib.hid hI
            replace hk2 := Lib.hid hk2
            clear hwt
            refine wpOp_step rfl (fun K hK => ?_)
            go_simp
            exact hK _ _ ⟨_, by simp [updT, e2], hk2.out.at_ rfl, hI.out.same _ _ (by decide)⟩
          · -- operation 4
            clear hKn hlow hlz h10
            replace hI := Lib.hid hI
            replace hk2 := Lib.hid hk2
            clear hwt
            refine wpOp_step rfl (fun K hK => ?_)
            go_simp
            exact hK _ _ ⟨_, by simp [updT], hk2.out.at_ rfl, hI.out.same _ _ (by decide)⟩
          · -- operation 5
            have e4 : t 4 = .pointer (some ⟨wr.heap.size, 4, none⟩) := hk2 4 _ (hwt 4 (by kernel_rfl)) rfl
            clear hKn hlow hlz h10
            replace hI := Lib.hid hI
            replace hk2 := Lib.hid hk2
            clear hwt
            refine wpOp_step rfl (fun K hK => ?_)
            go_simp
            exact hK _ _ ⟨_, by simp [updT, e4], hk2.out.at_ rfl, hI.out.same _ _ (by decide)⟩
          · -- operation 6
            have e3 : t 3 = .string n := hk2 3 _ (hwt 3 (by kernel_rfl)) rfl
            have e5 : t 5 = .slice a2 ks.length e2 := hk2 5 _ (hwt 5 (by kernel_rfl)) rfl
            have hSh : ∀ b, Sh S w0 W b → b < W.heap.size := fun b hb => by rcases hb with hb | hb; (have := hSw b hb; omega); exact hb.2
            have hC := Lib.hid (hF1.out W (.slice a2 ks.length e2) (Sh S w0 W) hSh ((hkr.below (fun b hb => by have := hS b hb; omega) (bt hbx hlow)).mono (fun b hb => Or.inl hb)))
            clear hKn hSh
            replace hk2 := Lib.hid hk2
            replace hI := Lib.hid hI
            clear hwt
            refine wpOp_step rfl (fun K hK => ?_)
            go_simp
            refine hC.out.mono ?_
            rintro e w5 ⟨v5, rfl, hr5, hb5⟩
            exact hK _ _ ⟨v5, by simp [updT, e3, e5], hk2.out.free rfl, hI.out.call h10 hSw (by decide) (by decide) hr5 hb5⟩
          · -- operation 7
            have hSh : ∀ b, Sh S w0 W b → b < W.heap.size := fun b hb => by rcases hb with hb | hb; (have := hSw b hb; omega); exact hb.2
            have hC := Lib.hid (hF2.out W (t 6) (Sh S w0 W) hSh (hKn 6 (by decide) (by decide) (hwt 6 (by kernel_rfl))))
            clear hKn hSh
            replace hk2 := Lib.hid hk2
            replace hI := Lib.hid hI
            clear hwt
            refine wpOp_step rfl (fun K hK => ?_)
            go_simp
            refine hC.out.mono ?_
            rintro e w5 ⟨v5, rfl, hr5, hb5⟩
            exact hK _ _ ⟨v5, by simp [updT, ], hk2.out.free rfl, hI.out.call h10 hSw (by decide) (by decide) hr5 hb5⟩
          · -- operation 8
            have e1 : t 1 = .string n := hk2 1 _ (hwt 1 (by kernel_rfl)) rfl
            have hSh : ∀ b, Sh S w0 W b → b < W.heap.size := fun b hb => by rcases hb with hb | hb; (have := hSw b hb; omega); exact hb.2
            have hC := Lib.hid (hF3.out W (t 7) (Sh S w0 W) hSh (hKn 7 (by decide) (by decide) (hwt 7 (by kernel_rfl))))
            clear hKn hSh
            replace hk2 := Lib.hid hk2
            replace hI := Lib.hid hI
            clear hwt
            refine wpOp_step rfl (fun K hK => ?_)
            go_simp
            refine hC.out.mono ?_
            rintro e w5 ⟨v5, rfl, hr5, hb5⟩
            exact hK _ _ ⟨v5, by simp [updT, e1], hk2.out.free rfl, hI.out.call h10 hSw (by decide) (by decide) hr5 hb5⟩
          · -- operation 9
            clear hKn hlow hlz h10
            replace hI := Lib.hid hI
            replace hk2 := Lib.hid hk2
            clear hwt
            refine wpOp_step rfl (fun K hK => ?_)
            go_simp
            exact hK _ _ ⟨_, by simp [updT], hk2.out.at_ rfl, hI.out.same _ _ (by decide)⟩
          · -- operation 10
            have e9 : t 9 = .pointer (some ⟨wr.heap.size, 4, none⟩) := hk2 9 _ (hwt 9 (by kernel_rfl)) rfl
            have hall : ∀ j, j < 10 → f j = true := fun j hj => by
              rcases (by omega : j = 0 ∨ j = 1 ∨ j = 2 ∨ j = 3 ∨ j = 4 ∨ j = 5 ∨ j = 6 ∨ j = 7 ∨ j = 8 ∨ j = 9) with rfl | rfl | rfl | rfl | rfl | rfl | rfl | rfl | rfl | rfl <;> exact hwt _ (by kernel_rfl)
            obtain ⟨a8, c8, e8⟩ := (hKn 8 (by decide) (by decide) (hall 8 (by decide))).slice
            have hput := hI.put h10 hall undef
            rw [e8] at hput
            have f4 := (bx.below hlow (by omega)).free 4
            replace hput := Lib.hid hput
            clear hKn hall
            replace hk2 := Lib.hid hk2
            replace hI := Lib.hid hI
            clear hwt
            refine wpOp_step rfl (fun K hK => ?_)
            go_simp
            exact hK _ _ ⟨undef, by simp [updT, e8, e9], hk2.out.free rfl, hput.out⟩
        case fin =>
          intro f t W hall hk2 hI
          obtain ⟨_, W0, hb0, hr8, rfl⟩ := hI.2 (hall 10 (by omega))
          clear hk2 hall hI
          change RepN (Sh S w0 W0) W0 (t 8) l3 at hr8
          obtain ⟨a8, c8, e8⟩ := hr8.slice
          rw [e8] at hr8 ⊢
          have hb0z := hb0.size
          have hbW : Below wr.heap.size wr (W0.setCell ⟨wr.heap.size, 4, none⟩ (.slice a8 l3.length c8)) := (bt hbx hb0).setCell (p := ⟨wr.heap.size, 4, none⟩) (Nat.le_refl _) _
          have bxW := (bx.below hb0 (by omega)).set 4 (.slice a8 l3.length c8)
          simp only [List.set_cons_succ, List.set_cons_zero] at bxW
          have hsW : (W0.setCell ⟨wr.heap.size, 4, none⟩ (.slice a8 l3.length c8)).heap.size = W0.heap.size := by simp [World.setCell]
          have hk8 : RepN (ShV S wo.heap.size u3 (W0.setCell ⟨wr.heap.size, 4, none⟩ (.slice a8 l3.length c8))) (W0.setCell ⟨wr.heap.size, 4, none⟩ (.slice a8 l3.length c8)) (.slice a8 l3.length c8) l3 := by
            refine (hr8.keep (fun c hc => Below.heap_setCell W0 _ _ c (by rcases hc with hc | hc; (have := hS c hc; show c ≠ wr.heap.size; omega); (show c ≠ wr.heap.size; omega)))).mono (fun c hc => ⟨?_, ?_⟩)
            · rcases hc with hc | hc
              · exact Or.inl hc
              · exact Or.inr ⟨by omega, by rw [hsW]; exact hc.2⟩
            · rcases hc with hc | hc
              · exact ownB_ne hown (Or.inl (hS c hc))
              · exact ownB_ne hown (Or.inr (by omega))
          obtain ⟨W, hW⟩ : ∃ W, W0.setCell ⟨wr.heap.size, 4, none⟩ (.slice a8 l3.length c8) = W := ⟨_, rfl⟩
          rw [hW] at hbW bxW hk8 ⊢
          clear hW hr8 hb0 hb0z hsW
          replace hk8 := Lib.hid hk8
          have q0 := bxW.cell (i := 0) rfl
          have q1 := bxW.cell (i := 1) rfl
          have q2 := bxW.cell (i := 2) rfl
          have q3 := bxW.cell (i := 3) rfl
          have q4 := bxW.cell (i := 4) rfl
          clear bx bxW p1 p4
          replace hAr := hAr.out
          try dsimp only
          have hz5 := hbW.size
          have hown5 := own_below3 hown (hbW)
          have hA5 := Lib.hid (shv_below hS hz hAr hbW)
          have hbo := bt hb hbW
          have hzo := hbo.size
          replace hAr := Lib.hid hAr
          go_wp2_with (at_builtin; refine wpList_appK _ [.int .i64 1, .string n, .slice a1 ats.length e1, .string tx, .slice a8 l3.length c8] 5 rfl _ _ 27 32 rfl wo.heap.size Try.underlying27 infoN rfl (by omega) _ A.length (cellsV A) rfl hown5 _ rfl rfl rfl (five_one _ _ _ _ _ _ _ _ _) (by omega) (by omega) hzo ?_; intro g cp w6 hown6 hgrow6 hat6)
          have hb6 := below_own hbo hown5 hgrow6 hzo (Nat.le_refl _)
          have hA6 := shv_grow (n := A.length + 1) (cap := cp) hS hzo hA5.out hgrow6 hat6
          have hx6 := shv_grow (A := [(⟨.mk 1 n ats tx l3, .slice a1 ats.length e1, .slice a8 l3.length c8⟩ : NV)]) (n := A.length + 1) (cap := cp) hS hzo (fun b hb => by
            rw [List.mem_singleton] at hb
            subst hb
            exact ⟨((hrv.at_).below (fun c hc => by have := hS c hc; omega) hbW).mono (fun c hc => ⟨Or.inl hc, ownB_ne hown5 (Or.inl (hS c hc))⟩), hk8.out⟩) hgrow6 hat6
          have hown7 : w6.ownsRow wo.heap.size 32 5 (.slice (some ⟨g, 0, none⟩) (A.length + 1) cp) (A ++ [(⟨.mk 1 n ats tx l3, .slice a1 ats.length e1, .slice a8 l3.length c8⟩ : NV)]).length (cellsV (A ++ [(⟨.mk 1 n ats tx l3, .slice a1 ats.length e1, .slice a8 l3.length c8⟩ : NV)])) := by
            rw [cellsV_snoc, List.length_append]; exact hown6
          have hA7 : ∀ b ∈ A ++ [(⟨.mk 1 n ats tx l3, .slice a1 ats.length e1, .slice a8 l3.length c8⟩ : NV)], RepV (ShV S wo.heap.size (.slice (some ⟨g, 0, none⟩) (A.length + 1) cp) w6) w6 b.x b.va b.vk := fun b hb => by
            rcases List.mem_append.1 hb with hb | hb
            · exact hA6 b hb
            · exact hx6 b hb
          clear hown6 hgrow6 hat6 hA6 hx6 hown5 hA5
          replace hA7 := Lib.hid hA7
          go_roundw
          case rel => exact ⟨i + 1, A ++ [(⟨.mk 1 n ats tx l3, .slice a1 ats.length e1, .slice a8 l3.length c8⟩ : NV)], by omega, by go_num, hnext _ _, hown7, hA7.out, hb6⟩
          case measure => exact meas_nat hlt
    · obtain rfl : i = l.length := by omega
      rw [List.take_length] at hA
      have hd1 := (steadyQ_sizes l (fun _ => true)).2
      have hd2 := txt_dt (M6.steadyQ (fun _ => true) l)
      have hrep : RepN (Sh S wo wr) wr u3 (M6.steadyQ (fun _ => true) l) := by
        rw [← hA.out]
        refine ⟨cellsV A, by rw [List.length_map]; exact Row.own hown (fun g hg => Or.inr (hown.lt g hg)), RepC.of_nv (fun b hb => (hAr.out b hb).mono (fun c hc => hc.1))⟩
      have hml : (M6.steadyQ (fun _ => true) l).length ≤ 1000000 := by rw [← hA.out, List.length_map]; exact hAl
      have hM := Lib.hid (ref03MergeS _ u3 _ wr (fun b hb => by rcases hb with hb | hb; (have := hS b hb; omega); exact hb.2) hrep hml (by omega))
      clear hA hrep hAr hown
      go_wp2_with fail
      refine hM.out.mono ?_
      rintro e w2 ⟨v2, rfl, hr2, hb2⟩
      have hz2 := hb2.size
      have hres : Hid (RepN (fun b => S b ∨ (wo.heap.size ≤ b ∧ b < w2.heap.size)) w2 v2 (M6.steady l)) := hr2.mono (fun b hb => by
        rcases hb with (hb | hb) | hb
        · exact Or.inl hb
        · exact Or.inr ⟨hb.1, by omega⟩
        · exact Or.inr ⟨by omega, hb.2⟩)
      have hbo := bt hb hb2
      clear hr2 hM
      go_wp2_with fail
      go_ret
      exact ⟨v2, rfl, hres.out, hbo⟩
end Go.Proofs.Ytbnfaijkmbgpmaa

/- Statement ModelStable. -/
namespace Go.Proofs.Ytbnfaijkmbgpmaa
open Go.RowKit

theorem ref06Good (S : Nat → Prop) (v : Value) (l : List Nd) (w : World) (hS : ∀ b, S b → b < w.heap.size) (hr : RepN S w v l) (hsz : SzN l) :
    Calls Try.prog 18 #[v] w (RepPost (M6.steady (gdN l)) w) := by
  have hG := Lib.hid (ref03Good S v l w hS hr hsz)
  have hw := gd_weight l
  have hd := dt_gd l
  have hf := gd_fit l
  have hSt := Lib.hid (fun (S : Nat → Prop) v W hS h => ref06Steady (M3.weight (gdN l) + 1) S v (gdN l) W (by omega) (by omega) hf (by omega) hS h)
  obtain ⟨a, cap, rfl⟩ := hr.slice
  clear hr hw hd hf
  generalize gdN l = G at *
  obtain ⟨wo, rfl⟩ : ∃ wo : World, wo = w := ⟨_, rfl⟩
  go_enter Try.func18, Try.ntmps18
  go_wp2_with fail
  refine hG.out.mono ?_
  rintro e w1 ⟨v1, rfl, hf1, hb1⟩
  have hr1 := hf1.rep
  have hz1 := hb1.size
  have hK := Lib.hid (hSt.out _ v1 w1 (fun b h => h.2) hr1)
  obtain ⟨a1, c1, hv1⟩ := hr1.slice
  subst hv1
  clear hG hSt hf1 hr1
  go_wp2_with fail
  refine hK.out.mono ?_
  rintro e w2 ⟨v2, rfl, hr2, hb2⟩
  have hres : Hid (RepN (fun b => b < w2.heap.size) w2 v2 (M6.steady G)) := hr2.mono (fun b hb => by
    have := hb2.size
    rcases hb with hb | hb
    · have := hb.2; omega
    · exact hb.2)
  have hbo := bt hb1 hb2
  clear hK hr2
  go_wp2_with fail
  go_ret
  exact ⟨_, rfl, hres.out, hbo⟩

set_option maxHeartbeats 4000000 in
set_option maxRecDepth 100000 in
theorem law06ModelStable (S : Nat → Prop) (v : Value) (l : List Nd) (w : World) (hg : Glo w) (hS : ∀ b, S b → b < w.heap.size) (hr : RepN S w v l) (hsz : SzN l) :
    Calls Try.prog 5 #[v] w (BoolB true w) := by
  have hF := Lib.hid (ref03Few S v l w hS hr hsz)
  have hff := fewN_fit l
  obtain ⟨a, cap, rfl⟩ := hr.slice
  clear hr hsz
  replace hg := Lib.hid hg
  have hgs : ∀ W, Below w.heap.size w W → Glo W := fun W h => hg.out.below h (Nat.le_refl _)
  generalize fewN l = F at *
  have hfF := Lib.hid hff
  have hfG := Lib.hid (gd_fit F)
  have hfS := Lib.hid (fit_steady (gd_fit F) (by have := dt_gd F; omega))
  have hGd := Lib.hid (fun v W h => ref03Good (fun b => b < W.heap.size) v F W (fun _ h => h) h (fit_szN F hff))
  have hSd := Lib.hid (fun v W h => ref06Good (fun b => b < W.heap.size) v F W (fun _ h => h) h (fit_szN F hff))
  clear hff
  have hLv := Lib.hid (fun W (h : Below w.heap.size w W) => lives06 W (hgs W h))
  have hMS := Lib.hid (fun (l : List Nd) (hf : FitN l) v W (h : Below w.heap.size w W) hr => modStable (fun b => b < W.heap.size) v l W hf (hgs W h) (fun _ h => h) hr)
  have hRS := Lib.hid (fun (l : List Nd) (hf : FitN l) v W hr => ref06Stable (fun b => b < W.heap.size) v l W hf (fun _ h => h) hr)
  clear hgs
  obtain ⟨wo, rfl⟩ : ∃ wo : World, wo = w := ⟨_, rfl⟩
  go_enter Try.func5, Try.ntmps5
  go_wp2_with fail
  refine hF.out.mono ?_
  rintro e w1 ⟨v1, rfl, hm1, hb1⟩
  have hr1 : RepN (fun b => b < w1.heap.size) w1 v1 F := hm1.rep.mono (fun b h => h.2)
  have hG1 := Lib.hid (hGd.out v1 w1 hr1)
  obtain ⟨a1, c1, hv1⟩ := hr1.slice
  subst hv1
  clear hF hm1 hGd
  go_wp2_with fail
  refine hG1.out.mono ?_
  rintro e w2 ⟨v2, rfl, hf2, hb2⟩
  have hb12 := bt hb1 hb2
  have hr2 : RepN (fun b => b < w2.heap.size) w2 v2 (gdN F) := hf2.rep.mono (fun b h => h.2)
  have hr1 : RepN (fun b => b < w2.heap.size) w2 (.slice a1 F.length c1) F := (RepN.below hr1 (fun _ h => h) hb2).mono (fun b h => by have := hb2.size; omega)
  have hS1 := Lib.hid (hSd.out _ w2 hr1)
  obtain ⟨a2, c2, hv2⟩ := hr2.slice
  subst hv2
  clear hf2 hG1 hSd
  generalize gdN F = G at *
  go_wp2_with fail
  refine hS1.out.mono ?_
  rintro e w3 ⟨v3, rfl, hr3, hb3⟩
  have hb13 := bt hb12 hb3
  have keep : ∀ {w w' : World} {v : Value} {l : List Nd}, RepN (fun b => b < w.heap.size) w v l → Below w.heap.size w w' → RepN (fun b => b < w'.heap.size) w' v l := fun h hb => (RepN.below h (fun _ h => h) hb).mono (fun b h => by have := hb.size; omega)
  have hr1 := keep hr1 hb3
  have hr2 := keep hr2 hb3
  obtain ⟨a3, c3, hv3⟩ := hr3.slice
  subst hv3
  generalize M6.steady G = T at *
  have eF : (M6.stableB F == M6.stableB F) = true := by cases M6.stableB F <;> rfl
  have eG : (M6.stableB G == M6.stableB G) = true := by cases M6.stableB G <;> rfl
  have eT : (M6.stableB T == M6.stableB T) = true := by cases M6.stableB T <;> rfl
  obtain ⟨sF, hsF⟩ : ∃ q, M6.stableB F = q := ⟨_, rfl⟩
  obtain ⟨sG, hsG⟩ : ∃ q, M6.stableB G = q := ⟨_, rfl⟩
  obtain ⟨sT, hsT⟩ : ∃ q, M6.stableB T = q := ⟨_, rfl⟩
  rw [hsF] at eF
  rw [hsG] at eG
  rw [hsT] at eT
  clear hS1
  have q0 := hMS.out F hfF.out _ w3 hb13 hr1
  rw [hsF] at q0
  replace q0 := Lib.hid q0
  go_wp2_with fail
  refine q0.out.mono ?_
  rintro e w4 ⟨rfl, hb4⟩
  have hb14 := bt hb13 hb4
  have hr1 := keep hr1 hb4
  have hr2 := keep hr2 hb4
  have hr3 := keep hr3 hb4
  clear q0
  have q1 := hRS.out F hfF.out _ w4 hr1
  rw [hsF] at q1
  replace q1 := Lib.hid q1
  go_wp2_with fail
  refine q1.out.mono ?_
  rintro e w5 ⟨rfl, hb5⟩
  have hb15 := bt hb14 hb5
  have hr1 := keep hr1 hb5
  have hr2 := keep hr2 hb5
  have hr3 := keep hr3 hb5
  clear q1
  have q2 := hMS.out G hfG.out _ w5 hb15 hr2
  rw [hsG] at q2
  replace q2 := Lib.hid q2
  go_wp2_with fail
  refine q2.out.mono ?_
  rintro e w6 ⟨rfl, hb6⟩
  have hb16 := bt hb15 hb6
  have hr1 := keep hr1 hb6
  have hr2 := keep hr2 hb6
  have hr3 := keep hr3 hb6
  clear q2
  have q3 := hRS.out G hfG.out _ w6 hr2
  rw [hsG] at q3
  replace q3 := Lib.hid q3
  go_wp2_with fail
  refine q3.out.mono ?_
  rintro e w7 ⟨rfl, hb7⟩
  have hb17 := bt hb16 hb7
  have hr1 := keep hr1 hb7
  have hr2 := keep hr2 hb7
  have hr3 := keep hr3 hb7
  clear q3
  have q4 := hMS.out T hfS.out _ w7 hb17 hr3
  rw [hsT] at q4
  replace q4 := Lib.hid q4
  go_wp2_with fail
  refine q4.out.mono ?_
  rintro e w8 ⟨rfl, hb8⟩
  have hb18 := bt hb17 hb8
  have hr1 := keep hr1 hb8
  have hr2 := keep hr2 hb8
  have hr3 := keep hr3 hb8
  clear q4
  have q5 := hRS.out T hfS.out _ w8 hr3
  rw [hsT] at q5
  replace q5 := Lib.hid q5
  go_wp2_with fail
  refine q5.out.mono ?_
  rintro e w9 ⟨rfl, hb9⟩
  have hb19 := bt hb18 hb9
  have hr1 := keep hr1 hb9
  have hr2 := keep hr2 hb9
  have hr3 := keep hr3 hb9
  clear q5
  have hL := Lib.hid (hLv.out w9 hb19)
  clear hLv hMS hRS
  go_wp2_with fail
  refine hL.out.mono ?_
  rintro e w10 ⟨rfl, hb10⟩
  go_wp2_with fail
  go_ret
  exact ⟨rfl, bt hb19 hb10⟩
end Go.Proofs.Ytbnfaijkmbgpmaa
