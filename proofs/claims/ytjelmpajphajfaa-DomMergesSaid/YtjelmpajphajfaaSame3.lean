/- Package dom: Same. -/
import Derived.Test.YtjelmpajphajfaaSame2
namespace Go.Proofs.Ytjelmpajphajfaa
open Go.RowKit

def Alikes (S : Nat → Prop) (a : List Nd) : Prop := ∀ x ∈ a, ∀ (y : Nd) (va vk vb vl : Value) (W : World), (∀ b, S b → b < W.heap.size) → RepV S W x va vk → RepV S W y vb vl → Calls Try.prog 51 #[x.val va vk, y.val vb vl] W (SamePost (oneSame x y) W)

set_option maxHeartbeats 4000000 in
set_option maxRecDepth 100000 in
theorem slEqualFunc (S : Nat → Prop) (a b : List Nd) (va vb : Value) (w : World) (hS : ∀ b, S b → b < w.heap.size) (ha : RepN S w va a) (hb : RepN S w vb b) (hal : Alikes S a) :
    Calls Try.prog 50 #[va, vb, .func (.func 51) #[] #[]] w (SamePost (M3.sameN a b) w) := by
  obtain ⟨a1, cap1, rfl⟩ := ha.slice
  obtain ⟨a2, cap2, rfl⟩ := hb.slice
  obtain ⟨_, hl1, hm1⟩ := ha.len
  obtain ⟨_, hl2, hm2⟩ := hb.len
  replace hal := Lib.hid hal
  by_cases hne : a.length = b.length
  · have hz : ((a.length : Int) == (b.length : Int)) = true := by simp [hne]
    have h0 : Hid (M3.sameN a b = M3.sameN (a.drop 0) (b.drop 0)) := rfl
    replace hne := Lib.hid hne
    go_enter Try.func50, Try.ntmps50
    go_wp2
    go_loopw [17] (fun u17 wr => ∃ i : Nat, i ≤ a.length ∧ u17 = .int .i64 (i : Int) ∧ Hid (M3.sameN a b = M3.sameN (a.drop i) (b.drop i)) ∧ Below w.heap.size w wr) (fun u17 _ => a.length - (intOf u17).toNat)
    case atStart => exact ⟨0, by omega, rfl, h0, Below.refl _ _⟩
    case round =>
      obtain ⟨i, hi, rfl, hv, hbw⟩ := hrel
      clear h0
      have hzw := hbw.size
      by_cases hlt : i < a.length
      · have hlt2 : i < b.length := by have := hne.out; omega
        have hI0 : (0 : Int) ≤ (i : Int) := by omega
        have hI1 : (i : Int) < (a.length : Int) := by omega
        have hI2 : (i : Int) < (b.length : Int) := by omega
        obtain ⟨b1, off1, va, vk, rfl, hS1, c0, c1, c2, c3, c4, hrx⟩ := (ha.below hS hbw).at_ i hlt
        obtain ⟨b2, off2, vb, vl, rfl, hS2, d0, d1, d2, d3, d4, hry⟩ := (hb.below hS hbw).at_ i hlt2
        have hsd := sameN_drop a b i hlt hlt2
        have hax := hal.out a[i] (List.getElem_mem hlt)
        generalize a[i] = x at *
        generalize b[i] = y at *
        obtain ⟨a5, c5, rfl⟩ := hrx.at_.slice
        obtain ⟨a6, c6, rfl⟩ := hrx.kids.slice
        obtain ⟨a7, c7, rfl⟩ := hry.at_.slice
        obtain ⟨a8, c8, rfl⟩ := hry.kids.slice
        have hx1 := (Below.refl wr.heap.size wr).alloc (Nat.le_refl _) (.cells (x.cells (.slice a5 x.attrs.length c5) (.slice a6 x.kids.length c6)).toArray 28)
        have hl2 : b2 < wr.heap.size := by have := hS b2 hS2; omega
        have d0' := (hx1.cell (p := ⟨b2, off2 + i * 5, none⟩) hl2).trans d0
        have d1' := (hx1.cell (p := ⟨b2, off2 + i * 5 + 1, none⟩) hl2).trans d1
        have d2' := (hx1.cell (p := ⟨b2, off2 + i * 5 + 2, none⟩) hl2).trans d2
        have d3' := (hx1.cell (p := ⟨b2, off2 + i * 5 + 3, none⟩) hl2).trans d3
        have d4' := (hx1.cell (p := ⟨b2, off2 + i * 5 + 4, none⟩) hl2).trans d4
        have hB2 := hx1.alloc (by simp) (.cells (y.cells (.slice a7 y.attrs.length c7) (.slice a8 y.kids.length c8)).toArray 28)
        have hcall := Lib.hid (hax y _ _ _ _ ((wr.alloc (.cells (x.cells (.slice a5 x.attrs.length c5) (.slice a6 x.kids.length c6)).toArray 28)).alloc (.cells (y.cells (.slice a7 y.attrs.length c7) (.slice a8 y.kids.length c8)).toArray 28)) (fun b h => by have := hS b h; have := hB2.size; omega) (RepV.below (w := wr) (B := wr.heap.size) hrx (fun b h => by have := hS b h; omega) hB2) (RepV.below (w := wr) (B := wr.heap.size) hry (fun b h => by have := hS b h; omega) hB2))
        replace hsd := Lib.hid (hv.out.trans hsd)
        generalize oneSame x y = r at *
        clear hax hv hrx hry
        go_wp2_with (fail)
        refine hcall.out.mono ?_
        rintro e w2 ⟨rfl, hb2⟩
        have hbr : Below wr.heap.size wr w2 := hB2.trans (hb2.mono (by simp; omega))
        clear c0 c1 c2 c3 c4 d0 d1 d2 d3 d4 d0' d1' d2' d3' d4' hcall
        cases r
        · go_wp2_with (fail)
          go_ret
          exact ⟨by rw [hsd.out]; rfl, hbw.trans (hbr.mono hzw)⟩
        · go_wp2_with (fail)
          go_roundw
          case rel => exact ⟨i + 1, by omega, by go_num, by rw [hsd.out]; rfl, hbw.trans (hbr.mono hzw)⟩
          case measure => simp [intOf]; omega
      · obtain rfl : i = a.length := by omega
        have hs : Hid (M3.sameN a b = true) := by
          show _ = _
          rw [hv.out, List.drop_length, hne.out, List.drop_length]; exact M3.sameN_nil
        clear hv
        go_wp2
        go_ret
        exact ⟨by rw [hs.out]; rfl, hbw⟩
  · have hs : Hid (M3.sameN a b = false) := M3.sameN_len a b hne
    have hz : ((a.length : Int) == (b.length : Int)) = false := by simpa using fun h => hne (by omega)
    go_enter Try.func50, Try.ntmps50
    go_wp2
    go_ret
    exact ⟨by rw [hs.out]; rfl, Below.refl _ _⟩

set_option maxHeartbeats 1000000 in
theorem domSame (wt : Nat) : ∀ (S : Nat → Prop) (a b : List Nd) (va vb : Value) (w : World), M3.weight a < wt → (∀ b, S b → b < w.heap.size) → RepN S w va a → RepN S w vb b → Calls Try.prog 21 #[va, vb] w (SamePost (M3.sameN a b) w) := by
  induction wt with
  | zero => intro S a b va vb w h; omega
  | succ wt ih =>
    intro S a b va vb w hwt hS ha hb
    have hE := Lib.hid (slEqualFunc S a b va vb w hS ha hb (fun x hx y va vk vb vl W hSW hrx hry => domAlike S x y va vk vb vl W hSW hrx hry (fun W2 hW2 => ih S x.kids y.kids vk vl W2 (by have := weight_mem hx; omega) (fun b h => by have := hSW b h; have := hW2.size; omega) (hrx.kids.below hSW hW2) (hry.kids.below hSW hW2))))
    obtain ⟨a1, cap1, rfl⟩ := ha.slice
    obtain ⟨a2, cap2, rfl⟩ := hb.slice
    clear ih
    go_enter Try.func21, Try.ntmps21
    go_wp2_with (fail)
    refine hE.out.mono ?_
    rintro e w1 ⟨rfl, hb1⟩
    go_wp2
    go_ret
    exact ⟨rfl, hb1⟩
end Go.Proofs.Ytjelmpajphajfaa
