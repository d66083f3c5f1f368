/- Texts joined: Same, Same2, Same3, Ref03s, Small3, Law03m, Ref03y, Ref03z, Law03g, Ref03x, Math3g, Ref03g, Law03v, AnyInv, Region. -/
import Derived.Deep.RegionHeld3
import Derived.StillTailTactics
import Derived.OrdersIn
import Derived.StillTail
import Derived.RegionTactic
import Derived.Test.YteefodibpjgicaaGreatK1
import Derived.Test.YteefodibpjgicaaGreatK2
import Derived.Test.YteefodibpjgicaaGreatK3
import Derived.Test.YteefodibpjgicaaGreatK4
/- Package dom: the same. -/
namespace Go.Proofs.YteefodibpjgicaaGreat
open Go.RowKit
def oneSame (x y : Nd) : Bool := x.kind == y.kind && M3.eqB x.name y.name && M3.eqB x.text y.text && M3.sameA x.attrs y.attrs && M3.sameN x.kids y.kids
theorem sameA_drop (a b : List Att) (i : Nat) (h : i < a.length) (h2 : i < b.length) : M3.sameA (a.drop i) (b.drop i) = (M3.eqB a[i].name b[i].name && M3.eqB a[i].value b[i].value && M3.sameA (a.drop (i + 1)) (b.drop (i + 1))) := by
  rw [List.drop_eq_getElem_cons h, List.drop_eq_getElem_cons h2, M3.sameA]
theorem sameN_drop (a b : List Nd) (i : Nat) (h : i < a.length) (h2 : i < b.length) : M3.sameN (a.drop i) (b.drop i) = (oneSame a[i] b[i] && M3.sameN (a.drop (i + 1)) (b.drop (i + 1))) := by
  rw [List.drop_eq_getElem_cons h, List.drop_eq_getElem_cons h2, M3.sameN_cons]; rfl

set_option maxHeartbeats 2000000 in
set_option maxRecDepth 100000 in
theorem slEqual (S : Nat → Prop) (a b : List Att) (va vb : Value) (w : World) (hS : ∀ b, S b → b < w.heap.size) (ha : Row S w 2 va a.length (cellsA a)) (hb : Row S w 2 vb b.length (cellsA b)) :
    Calls Tryz.prog 79 #[va, vb] w fun e w' => e = .returned (.bool (M3.sameA a b)) ∧ Below w.heap.size w w' := by
  obtain ⟨a1, cap1, rfl⟩ := ha.slice
  obtain ⟨a2, cap2, rfl⟩ := hb.slice
  obtain ⟨_, hl1, hm1⟩ := ha.len
  obtain ⟨_, hl2, hm2⟩ := hb.len
  by_cases hne : a.length = b.length
  · have hz : ((a.length : Int) == (b.length : Int)) = true := by simp [hne]
    have h0 : Hid (M3.sameA a b = M3.sameA (a.drop 0) (b.drop 0)) := rfl
    replace hne := Lib.hid hne
    go_enter Tryz.func79, Tryz.ntmps79
    go_wp2
    go_loopw [5, 13] (fun _ u13 wr => ∃ i : Nat, i ≤ a.length ∧ u13 = .int .i64 (i : Int) ∧ Hid (M3.sameA a b = M3.sameA (a.drop i) (b.drop i)) ∧ Below w.heap.size w wr) (fun _ u13 _ => a.length - (intOf u13).toNat)
    case atStart => exact ⟨0, by omega, rfl, h0, Below.refl _ _⟩
    case round =>
      obtain ⟨i, hi, rfl, hv, hbw⟩ := hrel
      clear h0
      by_cases hlt : i < a.length
      · have hlt2 : i < b.length := by have := hne.out; omega
        have hI0 : (0 : Int) ≤ (i : Int) := by omega
        have hI1 : (i : Int) < (a.length : Int) := by omega
        have hI2 : (i : Int) < (b.length : Int) := by omega
        obtain ⟨b1, off1, rfl, hS1, c0, c1⟩ := (ha.below hS hbw).atA i hlt
        obtain ⟨b2, off2, rfl, hS2, d0, d1⟩ := (hb.below hS hbw).atA i hlt2
        have hsd := sameA_drop a b i hlt hlt2
        generalize a[i].name = n1 at *
        generalize a[i].value = x1 at *
        generalize b[i].name = n2 at *
        generalize b[i].value = x2 at *
        replace hsd := Lib.hid hsd
        have q1 : M3.eqB n1 n2 = (n1.toList == n2.toList) := rfl
        have q2 : M3.eqB x1 x2 = (x1.toList == x2.toList) := rfl
        replace hsd := hsd.out
        cases he1 : (n1.toList == n2.toList)
        · have hsd : M3.sameA (a.drop i) (b.drop i) = false := by rw [hsd, q1, he1]; rfl
          clear q1 q2
          replace hsd := Lib.hid (hv.out.trans hsd)
          clear hv
          go_wp2_with (fail)
          go_region_held3 (fun w' => w'.cell? ⟨b1, off1 + i * 2, none⟩ = some (.string n1) ∧ w'.cell? ⟨b1, off1 + i * 2 + 1, none⟩ = some (.string x1) ∧ w'.cell? ⟨b2, off2 + i * 2, none⟩ = some (.string n2) ∧ w'.cell? ⟨b2, off2 + i * 2 + 1, none⟩ = some (.string x2))
            (first
              | go_keep
              | assumption)
            (first
              | fail)
          go_wp2_with (fail)
          go_ret
          exact ⟨by rw [hsd.out]; rfl, hbw.trans ((Below.refl _ wr).drew.mono (by have := hbw.size; omega))⟩
        · cases he2 : (x1.toList == x2.toList)
          · have hsd : M3.sameA (a.drop i) (b.drop i) = false := by rw [hsd, q1, q2, he1, he2]; rfl
            clear q1 q2
            replace hsd := Lib.hid (hv.out.trans hsd)
            clear hv
            go_wp2_with (fail)
            go_region_held3 (fun w' => w'.cell? ⟨b1, off1 + i * 2, none⟩ = some (.string n1) ∧ w'.cell? ⟨b1, off1 + i * 2 + 1, none⟩ = some (.string x1) ∧ w'.cell? ⟨b2, off2 + i * 2, none⟩ = some (.string n2) ∧ w'.cell? ⟨b2, off2 + i * 2 + 1, none⟩ = some (.string x2))
              (first
                | go_keep
                | assumption)
              (first
                | fail)
            go_wp2_with (fail)
            go_ret
            exact ⟨by rw [hsd.out]; rfl, hbw.trans ((Below.refl _ wr).drew.mono (by have := hbw.size; omega))⟩
          · have hsd : M3.sameA (a.drop i) (b.drop i) = M3.sameA (a.drop (i + 1)) (b.drop (i + 1)) := by rw [hsd, q1, q2, he1, he2]; rfl
            clear q1 q2
            replace hsd := Lib.hid (hv.out.trans hsd)
            clear hv
            go_wp2_with (fail)
            go_region_held3 (fun w' => w'.cell? ⟨b1, off1 + i * 2, none⟩ = some (.string n1) ∧ w'.cell? ⟨b1, off1 + i * 2 + 1, none⟩ = some (.string x1) ∧ w'.cell? ⟨b2, off2 + i * 2, none⟩ = some (.string n2) ∧ w'.cell? ⟨b2, off2 + i * 2 + 1, none⟩ = some (.string x2))
              (first
                | go_keep
                | assumption)
              (first
                | fail)
            go_wp2_with (fail)
            go_roundw
            case rel => exact ⟨i + 1, by omega, by go_num, hsd.out, hbw.trans ((Below.refl _ wr).drew.mono (by have := hbw.size; omega))⟩
            case measure => simp [intOf]; omega
      · obtain rfl : i = a.length := by omega
        have hs : Hid (M3.sameA a b = true) := by
          show _ = _
          rw [hv.out, List.drop_length, hne.out, List.drop_length]; rfl
        clear hv
        go_wp2
        go_ret
        exact ⟨by rw [hs.out]; rfl, hbw⟩
  · have hs : Hid (M3.sameA a b = false) := M3.sameA_len a b hne
    have hz : ((a.length : Int) == (b.length : Int)) = false := by simpa using fun h => hne (by omega)
    go_enter Tryz.func79, Tryz.ntmps79
    go_wp2
    go_ret
    exact ⟨by rw [hs.out]; rfl, Below.refl _ _⟩
end Go.Proofs.YteefodibpjgicaaGreat

/- Package dom: the same, walked on. -/
namespace Go.Proofs.YteefodibpjgicaaGreat
open Go.RowKit
def SamePost (r : Bool) (w : World) (e : Ending) (w' : World) : Prop := e = .returned (.bool r) ∧ Below w.heap.size w w'

set_option maxHeartbeats 4000000 in
set_option maxRecDepth 100000 in
theorem domAlike (S : Nat → Prop) (x y : Nd) (va vk vb vl : Value) (w : World) (hS : ∀ b, S b → b < w.heap.size) (hx : RepV S w x va vk) (hy : RepV S w y vb vl)
    (ih : ∀ W, Below w.heap.size w W → Calls Tryz.prog 38 #[vk, vl] W (SamePost (M3.sameN x.kids y.kids) W)) :
    Calls Tryz.prog 57 #[x.val va vk, y.val vb vl] w (SamePost (oneSame x y) w) := by
  obtain ⟨a1, c1, rfl⟩ := hx.at_.slice
  obtain ⟨a2, c2, rfl⟩ := hx.kids.slice
  obtain ⟨a3, c3, rfl⟩ := hy.at_.slice
  obtain ⟨a4, c4, rfl⟩ := hy.kids.slice
  have hsame : oneSame x y = (x.kind == y.kind && (x.name.toList == y.name.toList) && (x.text.toList == y.text.toList) && M3.sameA x.attrs y.attrs && M3.sameN x.kids y.kids) := rfl
  have hB : Below w.heap.size w ((w.alloc (.cells (x.cells (.slice a1 x.attrs.length c1) (.slice a2 x.kids.length c2)).toArray 41)).alloc (.cells (y.cells (.slice a3 y.attrs.length c3) (.slice a4 y.kids.length c4)).toArray 41)) := ((Below.refl _ w).alloc (Nat.le_refl _) _).alloc (by simp) _
  have hq := Lib.hid (fun W (hW : Below w.heap.size w W) => slEqual S x.attrs y.attrs _ _ W (fun b h => by have := hS b h; have := hW.size; omega) (hx.at_.below hS hW) (hy.at_.below hS hW))
  have b0 := (Box.new w 41 (x.cells (.slice a1 x.attrs.length c1) (.slice a2 x.kids.length c2))).alloc (.cells (y.cells (.slice a3 y.attrs.length c3) (.slice a4 y.kids.length c4)).toArray 41)
  have b1 := Box.new (w.alloc (.cells (x.cells (.slice a1 x.attrs.length c1) (.slice a2 x.kids.length c2)).toArray 41)) 41 (y.cells (.slice a3 y.attrs.length c3) (.slice a4 y.kids.length c4))
  simp only [World.size_alloc] at b1
  replace ih := Lib.hid ih
  obtain ⟨r1, hr1⟩ : ∃ r1, M3.sameA x.attrs y.attrs = r1 := ⟨_, rfl⟩
  obtain ⟨r2, hr2⟩ : ∃ r2, M3.sameN x.kids y.kids = r2 := ⟨_, rfl⟩
  rw [hr1] at hsame hq
  rw [hr2] at hsame ih
  clear hr1 hr2
  clear hx hy hS
  cases x with | mk k1 n1 ats1 t1 ks1 =>
  cases y with | mk k2 n2 ats2 t2 ks2 =>
  simp only [Nd.kind, Nd.name, Nd.text, Nd.attrs, Nd.kids, Nd.cells, Nd.val] at *
  cases he1 : (k1 == k2)
  · have hs : Hid (oneSame (.mk k1 n1 ats1 t1 ks1) (.mk k2 n2 ats2 t2 ks2) = false) := by show _ = _; rw [hsame, he1]; rfl
    have he : decide (k1 = k2) = false := by simpa using he1
    clear hsame
    go_enter Tryz.func57, Tryz.ntmps57
    go_wp2_with (fail)
    go_ret
    exact ⟨by rw [hs.out]; rfl, hB⟩
  · have he : k1 = k2 := by simpa using he1
    subst he
    cases he2 : (n1.toList == n2.toList)
    · have hs : Hid (oneSame (.mk k1 n1 ats1 t1 ks1) (.mk k1 n2 ats2 t2 ks2) = false) := by show _ = _; rw [hsame, he1, he2]; rfl
      clear hsame
      go_enter Tryz.func57, Tryz.ntmps57
      go_wp2_with (fail)
      go_ret
      exact ⟨by rw [hs.out]; rfl, hB⟩
    · cases he3 : (t1.toList == t2.toList)
      · have hs : Hid (oneSame (.mk k1 n1 ats1 t1 ks1) (.mk k1 n2 ats2 t2 ks2) = false) := by show _ = _; rw [hsame, he1, he2, he3]; rfl
        clear hsame
        go_enter Tryz.func57, Tryz.ntmps57
        go_wp2_with (fail)
        go_ret
        exact ⟨by rw [hs.out]; rfl, hB⟩
      · rw [he1, he2, he3] at hsame
        replace hsame := Lib.hid hsame
        go_enter Tryz.func57, Tryz.ntmps57
        go_wp2_with (fail)
        refine (hq.out _ hB).mono ?_
        rintro e w1 ⟨rfl, hb1⟩
        have e0 := b0.below hb1 b0.lt
        have e1 := b1.below hb1 b1.lt
        have d0 := e0.cell (i := 4) rfl
        have d1 := e1.cell (i := 4) rfl
        have hB1 := hB.trans (hb1.mono (by simp; omega))
        clear b0 b1 e0 e1 hq
        cases r1
        · go_wp2_with (fail)
          go_ret
          exact ⟨by rw [hsame.out]; rfl, hB1⟩
        · go_wp2_with (fail)
          refine (ih.out _ hB1).mono ?_
          rintro e w2 ⟨rfl, hb2⟩
          have hz1 := hB1.size
          go_wp2_with (fail)
          go_ret
          exact ⟨by rw [hsame.out]; cases r2 <;> rfl, hB1.trans (hb2.mono hz1)⟩
end Go.Proofs.YteefodibpjgicaaGreat

/- Package dom: Same. -/
namespace Go.Proofs.YteefodibpjgicaaGreat
open Go.RowKit
def Alikes (S : Nat → Prop) (a : List Nd) : Prop := ∀ x ∈ a, ∀ (y : Nd) (va vk vb vl : Value) (W : World), (∀ b, S b → b < W.heap.size) → RepV S W x va vk → RepV S W y vb vl → Calls Tryz.prog 57 #[x.val va vk, y.val vb vl] W (SamePost (oneSame x y) W)

set_option maxHeartbeats 4000000 in
set_option maxRecDepth 100000 in
theorem slEqualFunc (S : Nat → Prop) (a b : List Nd) (va vb : Value) (w : World) (hS : ∀ b, S b → b < w.heap.size) (ha : RepN S w va a) (hb : RepN S w vb b) (hal : Alikes S a) :
    Calls Tryz.prog 56 #[va, vb, .func (.func 57) #[] #[]] w (SamePost (M3.sameN a b) w) := by
  obtain ⟨a1, cap1, rfl⟩ := ha.slice
  obtain ⟨a2, cap2, rfl⟩ := hb.slice
  obtain ⟨_, hl1, hm1⟩ := ha.len
  obtain ⟨_, hl2, hm2⟩ := hb.len
  replace hal := Lib.hid hal
  by_cases hne : a.length = b.length
  · have hz : ((a.length : Int) == (b.length : Int)) = true := by simp [hne]
    have h0 : Hid (M3.sameN a b = M3.sameN (a.drop 0) (b.drop 0)) := rfl
    replace hne := Lib.hid hne
    go_enter Tryz.func56, Tryz.ntmps56
    go_wp2
    go_loopw [17] (fun u17 wr => ∃ i : Nat, i ≤ a.length ∧ u17 = .int .i64 (i : Int) ∧ Hid (M3.sameN a b = M3.sameN (a.drop i) (b.drop i)) ∧ Below w.heap.size w wr) (fun u17 _ => a.length - (intOf u17).toNat)
    case atStart => exact ⟨0, by omega, rfl, h0, Below.refl _ _⟩
    case round =>
      obtain ⟨i, hi, rfl, hv, hbw⟩ := hrel
      clear h0
      have hzw := hbw.size
      by_cases hlt : i < a.length
      · have hlt2 : i < b.length := by have := hne.out; omega
        have hI0 : (0 : Int) ≤ (i : Int) := by omega
        have hI1 : (i : Int) < (a.length : Int) := by omega
        have hI2 : (i : Int) < (b.length : Int) := by omega
        obtain ⟨b1, off1, va, vk, rfl, hS1, c0, c1, c2, c3, c4, hrx⟩ := (ha.below hS hbw).at_ i hlt
        obtain ⟨b2, off2, vb, vl, rfl, hS2, d0, d1, d2, d3, d4, hry⟩ := (hb.below hS hbw).at_ i hlt2
        have hsd := sameN_drop a b i hlt hlt2
        have hax := hal.out a[i] (List.getElem_mem hlt)
        generalize a[i] = x at *
        generalize b[i] = y at *
        obtain ⟨a5, c5, rfl⟩ := hrx.at_.slice
        obtain ⟨a6, c6, rfl⟩ := hrx.kids.slice
        obtain ⟨a7, c7, rfl⟩ := hry.at_.slice
        obtain ⟨a8, c8, rfl⟩ := hry.kids.slice
        have hx1 := (Below.refl wr.heap.size wr).alloc (Nat.le_refl _) (.cells (x.cells (.slice a5 x.attrs.length c5) (.slice a6 x.kids.length c6)).toArray 41)
        have hl2 : b2 < wr.heap.size := by have := hS b2 hS2; omega
        have d0' := (hx1.cell (p := ⟨b2, off2 + i * 5, none⟩) hl2).trans d0
        have d1' := (hx1.cell (p := ⟨b2, off2 + i * 5 + 1, none⟩) hl2).trans d1
        have d2' := (hx1.cell (p := ⟨b2, off2 + i * 5 + 2, none⟩) hl2).trans d2
        have d3' := (hx1.cell (p := ⟨b2, off2 + i * 5 + 3, none⟩) hl2).trans d3
        have d4' := (hx1.cell (p := ⟨b2, off2 + i * 5 + 4, none⟩) hl2).trans d4
        have hB2 := hx1.alloc (by simp) (.cells (y.cells (.slice a7 y.attrs.length c7) (.slice a8 y.kids.length c8)).toArray 41)
        have hcall := Lib.hid (hax y _ _ _ _ ((wr.alloc (.cells (x.cells (.slice a5 x.attrs.length c5) (.slice a6 x.kids.length c6)).toArray 41)).alloc (.cells (y.cells (.slice a7 y.attrs.length c7) (.slice a8 y.kids.length c8)).toArray 41)) (fun b h => by have := hS b h; have := hB2.size; omega) (RepV.below (w := wr) (B := wr.heap.size) hrx (fun b h => by have := hS b h; omega) hB2) (RepV.below (w := wr) (B := wr.heap.size) hry (fun b h => by have := hS b h; omega) hB2))
        replace hsd := Lib.hid (hv.out.trans hsd)
        generalize oneSame x y = r at *
        clear hax hv hrx hry
        go_wp2_with (fail)
        refine hcall.out.mono ?_
        rintro e w2 ⟨rfl, hb2⟩
        have hbr : Below wr.heap.size wr w2 := hB2.trans (hb2.mono (by simp; omega))
        clear c0 c1 c2 c3 c4 d0 d1 d2 d3 d4 d0' d1' d2' d3' d4' hcall
        cases r
        · go_wp2_with (fail)
          go_ret
          exact ⟨by rw [hsd.out]; rfl, hbw.trans (hbr.mono hzw)⟩
        · go_wp2_with (fail)
          go_roundw
          case rel => exact ⟨i + 1, by omega, by go_num, by rw [hsd.out]; rfl, hbw.trans (hbr.mono hzw)⟩
          case measure => simp [intOf]; omega
      · obtain rfl : i = a.length := by omega
        have hs : Hid (M3.sameN a b = true) := by
          show _ = _
          rw [hv.out, List.drop_length, hne.out, List.drop_length]; exact M3.sameN_nil
        clear hv
        go_wp2
        go_ret
        exact ⟨by rw [hs.out]; rfl, hbw⟩
  · have hs : Hid (M3.sameN a b = false) := M3.sameN_len a b hne
    have hz : ((a.length : Int) == (b.length : Int)) = false := by simpa using fun h => hne (by omega)
    go_enter Tryz.func56, Tryz.ntmps56
    go_wp2
    go_ret
    exact ⟨by rw [hs.out]; rfl, Below.refl _ _⟩

set_option maxHeartbeats 1000000 in
theorem domSame (wt : Nat) : ∀ (S : Nat → Prop) (a b : List Nd) (va vb : Value) (w : World), M3.weight a < wt → (∀ b, S b → b < w.heap.size) → RepN S w va a → RepN S w vb b → Calls Tryz.prog 38 #[va, vb] w (SamePost (M3.sameN a b) w) := by
  induction wt with
  | zero => intro S a b va vb w h; omega
  | succ wt ih =>
    intro S a b va vb w hwt hS ha hb
    have hE := Lib.hid (slEqualFunc S a b va vb w hS ha hb (fun x hx y va vk vb vl W hSW hrx hry => domAlike S x y va vk vb vl W hSW hrx hry (fun W2 hW2 => ih S x.kids y.kids vk vl W2 (by have := weight_mem hx; omega) (fun b h => by have := hSW b h; have := hW2.size; omega) (hrx.kids.below hSW hW2) (hry.kids.below hSW hW2))))
    obtain ⟨a1, cap1, rfl⟩ := ha.slice
    obtain ⟨a2, cap2, rfl⟩ := hb.slice
    clear ih
    go_enter Tryz.func38, Tryz.ntmps38
    go_wp2_with (fail)
    refine hE.out.mono ?_
    rintro e w1 ⟨rfl, hb1⟩
    go_wp2
    go_ret
    exact ⟨rfl, hb1⟩
end Go.Proofs.YteefodibpjgicaaGreat

/- The reference of layer 3: the same. -/
namespace Go.Proofs.YteefodibpjgicaaGreat
open Go.RowKit

set_option maxHeartbeats 8000000 in
set_option maxRecDepth 100000 in
theorem ref03Same (wt : Nat) : ∀ (S : Nat → Prop) (a b : List Nd) (va vb : Value) (w : World), M3.weight a < wt → (∀ b, S b → b < w.heap.size) → RepN S w va a → RepN S w vb b → Calls Tryz.prog 10 #[va, vb] w (SamePost (M3.sameN a b) w) := by
  induction wt with
  | zero => intro S a b va vb w h; omega
  | succ wt ih =>
  intro S a b va vb w hwt hS ha hb
  obtain ⟨a1, cap1, rfl⟩ := ha.slice
  obtain ⟨a2, cap2, rfl⟩ := hb.slice
  obtain ⟨_, hl1, hm1⟩ := ha.len
  obtain ⟨_, hl2, hm2⟩ := hb.len
  replace ih := Lib.hid ih
  by_cases hne : a.length = b.length
  · have hz : ((a.length : Int) == (b.length : Int)) = true := by simp [hne]
    have h0 : Hid (M3.sameN a b = M3.sameN (a.drop 0) (b.drop 0)) := rfl
    replace hne := Lib.hid hne
    go_enter Tryz.func10, Tryz.ntmps10
    go_wp2
    go_loopw [5] (fun u5 wr => ∃ i : Nat, i ≤ a.length ∧ u5 = .int .i64 (i : Int) ∧ Hid (M3.sameN a b = M3.sameN (a.drop i) (b.drop i)) ∧ Below w.heap.size w wr) (fun u5 _ => a.length - (intOf u5).toNat)
    case atStart => exact ⟨0, by omega, rfl, h0, Below.refl _ _⟩
    case round =>
      obtain ⟨i, hi, rfl, hv, hbw⟩ := hrel
      clear h0
      have hzw := hbw.size
      by_cases hlt : i < a.length
      · have hlt2 : i < b.length := by have := hne.out; omega
        have hI0 : (0 : Int) ≤ (i : Int) := by omega
        have hI1 : (i : Int) < (a.length : Int) := by omega
        have hI2 : (i : Int) < (b.length : Int) := by omega
        obtain ⟨b1, off1, va, vk, rfl, hS1, c0, c1, c2, c3, c4, hrx⟩ := (ha.below hS hbw).at_ i hlt
        obtain ⟨b2, off2, vb, vl, rfl, hS2, d0, d1, d2, d3, d4, hry⟩ := (hb.below hS hbw).at_ i hlt2
        have hsd := sameN_drop a b i hlt hlt2
        have hwx := weight_mem (List.getElem_mem hlt)
        generalize a[i] = x at *
        generalize b[i] = y at *
        obtain ⟨a5, c5, rfl⟩ := hrx.at_.slice
        obtain ⟨a6, c6, rfl⟩ := hrx.kids.slice
        obtain ⟨a7, c7, rfl⟩ := hry.at_.slice
        obtain ⟨a8, c8, rfl⟩ := hry.kids.slice
        have hx1 := (Below.refl wr.heap.size wr).alloc (Nat.le_refl _) (.cells (x.cells (.slice a5 x.attrs.length c5) (.slice a6 x.kids.length c6)).toArray 41)
        have hl2 : b2 < wr.heap.size := by have := hS b2 hS2; omega
        have d0' := (hx1.cell (p := ⟨b2, off2 + i * 5, none⟩) hl2).trans d0
        have d1' := (hx1.cell (p := ⟨b2, off2 + i * 5 + 1, none⟩) hl2).trans d1
        have d2' := (hx1.cell (p := ⟨b2, off2 + i * 5 + 2, none⟩) hl2).trans d2
        have d3' := (hx1.cell (p := ⟨b2, off2 + i * 5 + 3, none⟩) hl2).trans d3
        have d4' := (hx1.cell (p := ⟨b2, off2 + i * 5 + 4, none⟩) hl2).trans d4
        have hB2 := hx1.alloc (by simp) (.cells (y.cells (.slice a7 y.attrs.length c7) (.slice a8 y.kids.length c8)).toArray 41)
        have b0 := (Box.new wr 41 (x.cells (.slice a5 x.attrs.length c5) (.slice a6 x.kids.length c6))).alloc (.cells (y.cells (.slice a7 y.attrs.length c7) (.slice a8 y.kids.length c8)).toArray 41)
        have b1' := Box.new (wr.alloc (.cells (x.cells (.slice a5 x.attrs.length c5) (.slice a6 x.kids.length c6)).toArray 41)) 41 (y.cells (.slice a7 y.attrs.length c7) (.slice a8 y.kids.length c8))
        simp only [World.size_alloc] at b1'
        have hih := Lib.hid (fun W (hW : Below wr.heap.size wr W) => ih.out S x.kids y.kids (.slice a6 x.kids.length c6) (.slice a8 y.kids.length c8) W (by omega) (fun b h => by have := hS b h; have := hW.size; omega) (RepN.below (w := wr) (B := wr.heap.size) hrx.kids (fun b h => by have := hS b h; omega) hW) (RepN.below (w := wr) (B := wr.heap.size) hry.kids (fun b h => by have := hS b h; omega) hW))
        have hatx := fun W (hW : Below wr.heap.size wr W) => Row.below (w := wr) (B := wr.heap.size) hrx.at_ (fun b h => by have := hS b h; omega) hW
        have haty := fun W (hW : Below wr.heap.size wr W) => Row.below (w := wr) (B := wr.heap.size) hry.at_ (fun b h => by have := hS b h; omega) hW
        replace hsd := hv.out.trans hsd
        clear hv ih hrx hry ha hb
        have hsame : oneSame x y = (x.kind == y.kind && (x.name.toList == y.name.toList) && (x.text.toList == y.text.toList) && M3.sameA x.attrs y.attrs && M3.sameN x.kids y.kids) := rfl
        rw [hsame] at hsd
        clear hsame
        cases x with | mk k1 n1 ats1 t1 ks1 =>
        cases y with | mk k2 n2 ats2 t2 ks2 =>
        simp only [Nd.kind, Nd.name, Nd.text, Nd.attrs, Nd.kids, Nd.cells] at *
        replace hatx := Lib.hid hatx
        replace haty := Lib.hid haty
        cases he1 : (k1 == k2)
        · have hk : ¬ k1 = k2 := by simpa using he1
          replace hsd : Hid (M3.sameN a b = false) := by show _ = _; rw [hsd, he1]; rfl
          go_wp2_with (fail)
          go_ret
          exact ⟨by rw [hsd.out]; rfl, hbw.trans (hB2.mono hzw)⟩
        · obtain rfl : k1 = k2 := by simpa using he1
          cases he2 : (n1.toList == n2.toList)
          · replace hsd : Hid (M3.sameN a b = false) := by show _ = _; rw [hsd, he1, he2]; rfl
            go_wp2_with (fail)
            go_ret
            exact ⟨by rw [hsd.out]; rfl, hbw.trans (hB2.mono hzw)⟩
          · cases he3 : (t1.toList == t2.toList)
            · replace hsd : Hid (M3.sameN a b = false) := by show _ = _; rw [hsd, he1, he2, he3]; rfl
              go_wp2_with (fail)
              go_ret
              exact ⟨by rw [hsd.out]; rfl, hbw.trans (hB2.mono hzw)⟩
            · by_cases hla : ats1.length = ats2.length
              · have hla1 : ((ats1.length : Int) == (ats2.length : Int)) = true := by simp [hla]
                have hla2 : (ats1.length : Int) = (ats2.length : Int) := by omega
                rw [he1, he2, he3] at hsd
                replace hsd := Lib.hid hsd
                replace hla := Lib.hid hla
                clear hla2
                go_wp2_with (fail)
                rw [show ((ats1.length : Int) != (ats2.length : Int)) = false by simp [hla.out]]
                clear hla1
                obtain ⟨wo, rfl⟩ : ∃ wo : World, wo = wr := ⟨_, rfl⟩
                have h1 : Hid (M3.sameA ats1 ats2 = M3.sameA (ats1.drop 0) (ats2.drop 0)) := rfl
                go_loopw [8] (fun u8 wr => ∃ k : Nat, k ≤ ats1.length ∧ u8 = .int .i64 (k : Int) ∧ Hid (M3.sameA ats1 ats2 = M3.sameA (ats1.drop k) (ats2.drop k)) ∧ Below wo.heap.size wo wr ∧ Box wr wo.heap.size 41 [.int .i64 k1, .string n1, .slice a5 ats1.length c5, .string t1, .slice a6 ks1.length c6] ∧ Box wr (wo.heap.size + 1) 41 [.int .i64 k1, .string n2, .slice a7 ats2.length c7, .string t2, .slice a8 ks2.length c8]) (fun u8 _ => ats1.length - (intOf u8).toNat)
                case atStart => exact ⟨0, by omega, rfl, h1, hB2, b0, b1'⟩
                case round =>
                  obtain ⟨k, hk, rfl, hA, hbi, hx8, hy8⟩ := hrel
                  have g1 := hx8.cell (i := 2) rfl
                  have g2 := hy8.cell (i := 2) rfl
                  have g3 := hx8.cell (i := 4) rfl
                  have g4 := hy8.cell (i := 4) rfl
                  clear h1 hB2 b0 b1' d0' d1' d2' d3' d4' c0 c1 c2 c3 c4 d0 d1 d2 d3 d4 hx1
                  by_cases hlk : k < ats1.length
                  · have hlk2 : k < ats2.length := by have := hla.out; omega
                    have hJ0 : (0 : Int) ≤ (k : Int) := by omega
                    have hJ1 : (k : Int) < (ats1.length : Int) := by omega
                    have hJ2 : (k : Int) < (ats2.length : Int) := by omega
                    obtain ⟨_, hl5, hm5⟩ := (hatx.out wr hbi).len
                    have hb63 : Hid (ats1.length ≤ 9223372036854775807) := Nat.le_trans hl5 hm5
                    clear hl5 hm5
                    obtain ⟨b3, off3, rfl, hS3, p0, p1⟩ := (hatx.out wr hbi).atA k hlk
                    obtain ⟨b4, off4, rfl, hS4, p2, p3⟩ := (haty.out wr hbi).atA k hlk2
                    have hsa := sameA_drop ats1 ats2 k hlk hlk2
                    generalize ats1[k].name = m1 at *
                    generalize ats1[k].value = x1 at *
                    generalize ats2[k].name = m2 at *
                    generalize ats2[k].value = x2 at *
                    replace hA := hA.out.trans hsa
                    have q1 : M3.eqB m1 m2 = (m1.toList == m2.toList) := rfl
                    have q2 : M3.eqB x1 x2 = (x1.toList == x2.toList) := rfl
                    clear hsa
                    cases he4 : (m1.toList == m2.toList)
                    · clear q2
                      replace hA : Hid (M3.sameA ats1 ats2 = false) := by show _ = _; rw [hA, q1, he4]; rfl
                      go_wp2_with (fail)
                      go_region_held3 (fun w' => w'.cell? ⟨wo.heap.size, 2, none⟩ = some (.slice (some ⟨b3, off3, none⟩) ats1.length c5) ∧ w'.cell? ⟨wo.heap.size + 1, 2, none⟩ = some (.slice (some ⟨b4, off4, none⟩) ats2.length c7) ∧ w'.cell? ⟨b3, off3 + k * 2, none⟩ = some (.string m1) ∧ w'.cell? ⟨b3, off3 + k * 2 + 1, none⟩ = some (.string x1) ∧ w'.cell? ⟨b4, off4 + k * 2, none⟩ = some (.string m2) ∧ w'.cell? ⟨b4, off4 + k * 2 + 1, none⟩ = some (.string x2))
                        (first
                          | go_keep
                          | assumption)
                        (first
                          | fail)
                      go_wp2_with (fail)
                      go_ret
                      exact ⟨by rw [hsd.out, hA.out]; rfl, hbw.trans ((hbi.trans ((Below.refl _ wr).drew.mono (by have := hbi.size; omega))).mono hzw)⟩
                    · cases he5 : (x1.toList == x2.toList)
                      · replace hA : Hid (M3.sameA ats1 ats2 = false) := by show _ = _; rw [hA, q1, q2, he4, he5]; rfl
                        go_wp2_with (fail)
                        go_region_held3 (fun w' => w'.cell? ⟨wo.heap.size, 2, none⟩ = some (.slice (some ⟨b3, off3, none⟩) ats1.length c5) ∧ w'.cell? ⟨wo.heap.size + 1, 2, none⟩ = some (.slice (some ⟨b4, off4, none⟩) ats2.length c7) ∧ w'.cell? ⟨b3, off3 + k * 2, none⟩ = some (.string m1) ∧ w'.cell? ⟨b3, off3 + k * 2 + 1, none⟩ = some (.string x1) ∧ w'.cell? ⟨b4, off4 + k * 2, none⟩ = some (.string m2) ∧ w'.cell? ⟨b4, off4 + k * 2 + 1, none⟩ = some (.string x2))
                          (first
                            | go_keep
                            | assumption)
                          (first
                            | fail)
                        go_wp2_with (fail)
                        go_ret
                        exact ⟨by rw [hsd.out, hA.out]; rfl, hbw.trans ((hbi.trans ((Below.refl _ wr).drew.mono (by have := hbi.size; omega))).mono hzw)⟩
                      · replace hA : Hid (M3.sameA ats1 ats2 = M3.sameA (ats1.drop (k + 1)) (ats2.drop (k + 1))) := by show _ = _; rw [hA, q1, q2, he4, he5]; rfl
                        go_wp2_with (fail)
                        go_region_held3 (fun w' => w'.cell? ⟨wo.heap.size, 2, none⟩ = some (.slice (some ⟨b3, off3, none⟩) ats1.length c5) ∧ w'.cell? ⟨wo.heap.size + 1, 2, none⟩ = some (.slice (some ⟨b4, off4, none⟩) ats2.length c7) ∧ w'.cell? ⟨b3, off3 + k * 2, none⟩ = some (.string m1) ∧ w'.cell? ⟨b3, off3 + k * 2 + 1, none⟩ = some (.string x1) ∧ w'.cell? ⟨b4, off4 + k * 2, none⟩ = some (.string m2) ∧ w'.cell? ⟨b4, off4 + k * 2 + 1, none⟩ = some (.string x2))
                          (first
                            | go_keep
                            | assumption)
                          (first
                            | fail)
                        go_wp2_with (fail)
                        go_roundw
                        case rel => exact ⟨k + 1, by omega, by rw [IntWalk.wrap64_in _ (by have := hb63.out; omega)]; rfl, hA, hbi.trans ((Below.refl _ wr).drew.mono (by have := hbi.size; omega)), hx8.below ((Below.refl _ wr).drew) hx8.lt, hy8.below ((Below.refl _ wr).drew) hy8.lt⟩
                        case measure => clear hA hsd; rw [IntWalk.wrap64_in _ (by have := hb63.out; omega)]; exact meas_nat hlk
                  · obtain rfl : k = ats1.length := by omega
                    have hs : Hid (M3.sameA ats1 ats2 = true) := by
                      show _ = _
                      rw [hA.out, List.drop_length, hla.out, List.drop_length]; rfl
                    clear hA
                    go_wp2_with (fail)
                    refine (hih.out _ hbi).mono ?_
                    rintro e w9 ⟨rfl, hb9⟩
                    have hzi := hbi.size
                    have hbo : Below wo.heap.size wo w9 := hbi.trans (hb9.mono hzi)
                    generalize M3.sameN ks1 ks2 = r at *
                    cases r
                    · go_wp2_with (fail)
                      go_ret
                      exact ⟨by rw [hsd.out, hs.out]; rfl, hbw.trans (hbo.mono hzw)⟩
                    · go_wp2_with (fail)
                      go_roundw
                      case rel => exact ⟨i + 1, by omega, by go_num, by show _ = _; rw [hsd.out, hs.out]; simp, hbw.trans (hbo.mono hzw)⟩
                      case measure => simp [intOf]; omega
              · have hla1 : ((ats1.length : Int) == (ats2.length : Int)) = false := by simpa using fun h => hla (by omega)
                replace hsd : Hid (M3.sameN a b = false) := by show _ = _; rw [hsd, M3.sameA_len _ _ hla]; simp
                go_wp2_with (fail)
                go_ret
                exact ⟨by rw [hsd.out]; rfl, hbw.trans (hB2.mono hzw)⟩
      · obtain rfl : i = a.length := by omega
        have hs : Hid (M3.sameN a b = true) := by
          show _ = _
          rw [hv.out, List.drop_length, hne.out, List.drop_length]; exact M3.sameN_nil
        clear hv
        go_wp2
        go_ret
        exact ⟨by rw [hs.out]; rfl, hbw⟩
  · have hs : Hid (M3.sameN a b = false) := M3.sameN_len a b hne
    have hz : ((a.length : Int) == (b.length : Int)) = false := by simpa using fun h => hne (by omega)
    go_enter Tryz.func10, Tryz.ntmps10
    go_wp2
    go_ret
    exact ⟨by rw [hs.out]; rfl, Below.refl _ _⟩

end Go.Proofs.YteefodibpjgicaaGreat

/- Layer 3: few nodes are few, and light. -/
namespace Go.Proofs.YteefodibpjgicaaGreat
open Go.RowKit
theorem few_size (s : ByteArray) : (M3.few s).size ≤ 30 := by
  unfold M3.few
  split
  · simp [ByteArray.size_extract]; omega
  · omega
theorem cut_weight (l : List Nd) (m : Nat) : M3.weight (M3.cut l m).1 + 6 * (M3.cut l m).2 ≤ 6 * m := by
  induction l using Nd.ind generalizing m with
  | h0 => rw [M3.cut_nil, M3.weight_nil]; simp
  | h1 k n a t ks r ih1 ih2 =>
    cases m with
    | zero => rw [M3.cut_zero, M3.weight_nil]; simp
    | succ m =>
      rw [M3.cut_cons, M3.weight_cons]
      have h1 := ih1 m
      have h2 := ih2 (M3.cut ks m).2
      simp only [Nd.kids, Nd.attrs]
      have h3 : ((a.take 5).map M3.fewA).length ≤ 5 := by simp; omega
      omega
theorem fewN_weight (l : List Nd) : M3.weight (fewN l) ≤ 240 := by
  have := cut_weight l 40
  unfold fewN
  omega
theorem fitN_append {a b : List Nd} : FitN (a ++ b) ↔ FitN a ∧ FitN b := by
  induction a with
  | nil => simp [fitN_nil]
  | cons x r ih => rw [List.cons_append, fitN_cons, fitN_cons, ih]; simp [and_assoc]
end Go.Proofs.YteefodibpjgicaaGreat

/- Layer 3: merged nodes are the document's, and merged again the same. -/
namespace Go.Proofs.YteefodibpjgicaaGreat
open Go.RowKit
theorem weight_push (out : List Nd) (x : Nd) : M3.weight (M3.push out x) ≤ M3.weight out + M3.weight [x] := by
  cases h : M3.bareB x
  · rcases List.eq_nil_or_concat out with rfl | ⟨o, y, rfl⟩
    · rw [M3.push_none h]; omega
    · rw [List.concat_eq_append, M3.push_snoc h]
      split
      · rw [M3.weight_append, M3.weight_append]
        have : M3.weight [M3.withText y (M3.cat y.text x.text)] = M3.weight [y] := by
          rw [M3.weight_cons, M3.weight_cons, M3.withText_attrs, M3.withText_kids]
        omega
      · rw [M3.weight_append]; omega
  · rw [M3.push_bare h]; omega
theorem weight_merge (l : List Nd) : M3.weight (M3.merge l) ≤ M3.weight l := by
  have key : ∀ (l out : List Nd), M3.weight (l.foldl M3.push out) ≤ M3.weight out + M3.weight l := by
    intro l
    induction l with
    | nil => intro out; rw [M3.weight_nil]; exact Nat.le_refl _
    | cons x r ih =>
      intro out
      have h1 := ih (M3.push out x)
      have h2 := weight_push out x
      have h3 : M3.weight (x :: r) = M3.weight [x] + M3.weight r := by rw [← List.singleton_append, M3.weight_append]
      rw [List.foldl_cons, h3]
      omega
  have := key l []
  rw [M3.weight_nil] at this
  simpa [M3.merge] using this
theorem txtN_push (out : List Nd) (x : Nd) : txtN (M3.push out x) ≤ txtN out + x.text.size := by
  cases h : M3.bareB x
  · rcases List.eq_nil_or_concat out with rfl | ⟨o, y, rfl⟩
    · rw [M3.push_none h, txtN_cons]; exact Nat.le_of_eq (by rw [Nat.add_comm])
    · rw [List.concat_eq_append, M3.push_snoc h]
      split
      · rw [txtN_append, txtN_append, txtN_cons, txtN_cons, M3.withText_text, cat_size]
        have : txtN [] = 0 := rfl
        omega
      · rw [txtN_append, txtN_cons]
        have : txtN [] = 0 := rfl
        omega
  · rw [M3.push_bare h]; omega
theorem txtN_merge (l : List Nd) : txtN (M3.merge l) ≤ txtN l := by
  have key : ∀ (l out : List Nd), txtN (l.foldl M3.push out) ≤ txtN out + txtN l := by
    intro l
    induction l with
    | nil => intro out; exact Nat.le_add_right _ _
    | cons x r ih =>
      intro out
      have h1 := ih (M3.push out x)
      have h2 := txtN_push out x
      rw [List.foldl_cons, txtN_cons]
      omega
  have := key l []
  have h0 : txtN ([] : List Nd) = 0 := rfl
  rw [h0] at this
  simpa [M3.merge] using this
theorem txtN_fit (l : List Nd) (b : Nat) (h : ∀ x ∈ l, x.text.size ≤ b) : txtN l ≤ l.length * b := by
  induction l with
  | nil => exact Nat.zero_le _
  | cons x r ih =>
    rw [txtN_cons, List.length_cons, Nat.add_mul]
    have h1 := h x (by simp)
    have h2 := ih (fun y hy => h y (by simp [hy]))
    omega
/-- Nodes that a call hands back, wherever they stand. -/
def RepPost (l : List Nd) (w : World) (e : Ending) (w' : World) : Prop := ∃ v', e = .returned v' ∧ RepN (fun b => b < w'.heap.size) w' v' l ∧ Below w.heap.size w w'
end Go.Proofs.YteefodibpjgicaaGreat

/- The reference of layer 3: which nodes may be. -/
namespace Go.Proofs.YteefodibpjgicaaGreat
open Go.RowKit
def seenA (ats : List Att) (i : Nat) : List ByteArray := (ats.take i).map Att.name

theorem seenA_len (ats : List Att) (i : Nat) (h : i ≤ ats.length) : (seenA ats i).length = i := by simp [seenA]; omega

theorem seenA_get (ats : List Att) (i k : Nat) (hk : k < i) (hi : i ≤ ats.length) : (seenA ats i)[k]? = some ats[k].name := by
  unfold seenA
  rw [List.getElem?_map, List.getElem?_take, if_pos hk, List.getElem?_eq_getElem (by omega)]
  rfl

theorem names_at' (ats : List Att) (i : Nat) (h : i < ats.length) : M3.namesE (seenA ats i) (ats.drop i) = if M3.attributedB ats[i].name.data.toList then (if (seenA ats i).any (M3.eqB ats[i].name) then 5 else M3.namesE (seenA ats (i + 1)) (ats.drop (i + 1))) else 4 := by
  have htk : seenA ats (i + 1) = seenA ats i ++ [ats[i].name] := by
    unfold seenA
    rw [List.take_succ_eq_append_getElem h, List.map_append]; rfl
  rw [List.drop_eq_getElem_cons h, M3.namesE, htk]

theorem values_at (ats : List Att) (i : Nat) (h : i < ats.length) : M3.valuesE (ats.drop i) = if M1.isB ats[i].value.data.toList then M3.valuesE (ats.drop (i + 1)) else 2 := by
  rw [List.drop_eq_getElem_cons h, M3.valuesE]

theorem any_at {l : List ByteArray} {p : ByteArray → Bool} {k : Nat} {s : ByteArray} (h : l[k]? = some s) (hp : p s = true) : l.any p = true :=
  List.any_eq_true.2 ⟨s, List.mem_of_getElem? h, hp⟩

theorem eqB_comm (s t : ByteArray) : M3.eqB s t = (t.toList == s.toList) := by
  unfold M3.eqB
  rw [Bool.eq_iff_iff, beq_iff_eq, beq_iff_eq]
  exact eq_comm

def IntPost (n : Int) (w : World) (e : Ending) (w' : World) : Prop := e = .returned (.int .i64 n) ∧ Below w.heap.size w w'

set_option maxHeartbeats 8000000 in
set_option maxRecDepth 100000 in
theorem ref03Element (S : Nat → Prop) (x : Nd) (va vk : Value) (w : World) (hS : ∀ b, S b → b < w.heap.size) (hx : RepV S w x va vk) (hf : Fit1 x) :
    Calls Tryz.prog 51 #[x.val va vk] w (IntPost (M3.elemE x) w) := by
  obtain ⟨hat, hkd⟩ := hx
  obtain ⟨a, cap, rfl⟩ := hat.slice
  obtain ⟨_, hlc, hcm⟩ := hat.len
  obtain ⟨a2, cap2, rfl⟩ := hkd.slice
  cases x with | mk k n ats t ks =>
  obtain ⟨hf1, hf2, hf3, _⟩ := hf
  simp only [Nd.val, Nd.kind, Nd.name, Nd.text, Nd.attrs, Nd.kids] at *
  have hb0 := (Below.refl w.heap.size w).alloc (Nat.le_refl _) (.cells #[.int .i64 k, .string n, .slice a ats.length cap, .string t, .slice a2 ks.length cap2] 41)
  have hbx0 := Box.new w 41 [.int .i64 k, .string n, .slice a ats.length cap, .string t, .slice a2 ks.length cap2]
  have hNa := Lib.hid (fun W => ref03Named n W (by omega))
  have hr : M3.elemE (.mk k n ats t ks) = if t.toList.isEmpty then (if M3.namedB n.data.toList then (if M3.namesE [] ats = 0 then M3.valuesE ats else M3.namesE [] ats) else 4) else 7 := rfl
  generalize M3.namedB n.data.toList = p at *
  cases hte : t.toList.isEmpty
  · rw [hte] at hr
    replace hr : Hid (M3.elemE (.mk k n ats t ks) = 7) := hr
    go_enter Tryz.func51, Tryz.ntmps51
    go_wp2_with fail
    refine (hNa.out _).mono ?_
    rintro e w1 ⟨rfl, rfl⟩
    go_wp2
    go_ret
    exact ⟨by rw [hr.out]; rfl, hb0⟩
  rw [hte] at hr
  cases p
  · replace hr : Hid (M3.elemE (.mk k n ats t ks) = 4) := hr
    go_enter Tryz.func51, Tryz.ntmps51
    go_wp2_with fail
    refine (hNa.out _).mono ?_
    rintro e w1 ⟨rfl, rfl⟩
    go_wp2
    go_ret
    exact ⟨by rw [hr.out]; rfl, hb0⟩
  replace hr : Hid (M3.elemE (.mk k n ats t ks) = if M3.namesE [] ats = 0 then M3.valuesE ats else M3.namesE [] ats) := hr
  have hz0 : w.heap.size < (w.alloc (.cells #[.int .i64 k, .string n, .slice a ats.length cap, .string t, .slice a2 ks.length cap2] 41)).heap.size := by simp
  have hn0 : Hid (M3.namesE [] ats = M3.namesE (seenA ats 0) (ats.drop 0)) := rfl
  replace hf3 := Lib.hid hf3
  go_enter Tryz.func51, Tryz.ntmps51
  go_wp2_with fail
  refine (hNa.out _).mono ?_
  rintro e w1 ⟨rfl, rfl⟩
  go_wp2_with fail
  go_loopw [4, 5, 6] (fun u4 _ _ wr => ∃ i : Nat, i ≤ ats.length ∧ u4 = .int .i64 (i : Int) ∧ Hid (M3.namesE [] ats = M3.namesE (seenA ats i) (ats.drop i)) ∧ Below w.heap.size w wr ∧ Box wr w.heap.size 41 [.int .i64 k, .string n, .slice a ats.length cap, .string t, .slice a2 ks.length cap2]) (fun u4 _ _ _ => ats.length - (intOf u4).toNat)
  case atStart => exact ⟨0, by omega, rfl, hn0, hb0, hbx0⟩
  case round =>
    obtain ⟨i, hi, rfl, hv, hb, hbx⟩ := hrel
    clear hn0 hbx0 hb0 hz0 hNa
    have hz := hbx.lt
    have q2 := hbx.cell (i := 2) rfl
    by_cases hlt : i < ats.length
    · obtain ⟨b, off, rfl, hSb, c0, c1⟩ := (hat.below hS hb).atA i hlt
      have hbl := hS b hSb
      have hna := names_at' ats i hlt
      have hfa := (hf3.out _ (List.getElem_mem hlt)).1
      have hget := Lib.hid (fun k (hk : k < i) => seenA_get ats i k hk hi)
      have hA := Lib.hid (fun W => ref03Attributed ats[i].name W hfa)
      have hsl := seenA_len ats i hi
      generalize hnm : ats[i].name = nm at *
      generalize M3.attributedB nm.data.toList = p at *
      replace hna := hv.out.trans hna
      have hI0 : (0 : Int) ≤ (i : Int) := by omega
      have hI1 : (i : Int) < (ats.length : Int) := by omega
      obtain ⟨wo, rfl⟩ : ∃ wo : World, wo = wr := ⟨_, rfl⟩
      replace hsl := Lib.hid hsl
      replace hnm := Lib.hid hnm
      cases p
      · replace hna : Hid (M3.namesE [] ats = 4) := hna
        rw [hna.out] at hr
        replace hr : Hid (M3.elemE (.mk k n ats t ks) = 4) := hr
        go_wp2_with fail
        refine (hA.out _).mono ?_
        rintro e w2 ⟨rfl, hb2⟩
        go_wp2
        go_ret
        exact ⟨by rw [hr.out]; rfl, hb.trans (hb2.mono (by omega))⟩
      · replace hna : Hid (M3.namesE [] ats = if (seenA ats i).any (M3.eqB nm) then 5 else M3.namesE (seenA ats (i + 1)) (ats.drop (i + 1))) := hna
        clear hv
        go_wp2_with fail
        refine (hA.out _).mono ?_
        rintro e w2 ⟨rfl, hb2⟩
        have hbx2 := hbx.below hb2 hz
        have c0' := (hb2.cell (p := ⟨b, off + i * 2, none⟩) (by simp; omega)).trans c0
        have hb02 : Below w.heap.size w w2 := hb.trans (hb2.mono (by omega))
        clear hA hbx q2 c0 c1
        go_wp2_with fail
        go_loopw [6] (fun u6 wr => ∃ j : Nat, j ≤ i ∧ u6 = .int .i64 (j : Int) ∧ Hid (∀ k' (s : ByteArray), k' < j → (seenA ats i)[k']? = some s → M3.eqB nm s = false) ∧ Below w2.heap.size w2 wr) (fun u6 _ => i - (intOf u6).toNat)
        case atStart => exact ⟨0, by omega, rfl, Lib.hid (fun k' s h => absurd h (by omega)), Below.refl _ _⟩
        case round =>
          obtain ⟨j, hj, rfl, hno, hbj⟩ := hrel
          have hbx3 := hbx2.below hbj hbx2.lt
          have q3 := hbx3.cell (i := 2) rfl
          have hb03 : Below w.heap.size w wr := hb02.trans (hbj.mono (by have := hb02.size; omega))
          have hz2 := hb02.size
          by_cases hji : j < i
          · obtain ⟨b', off', e0, hSb', d0, d1⟩ := (hat.below hS hb03).atA j (by omega)
            cases e0
            have c0'' := (hbj.cell (p := ⟨b, off + i * 2, none⟩) (by simp; omega)).trans c0'
            have hgj := hget.out j hji
            have hJ0 : (0 : Int) ≤ (j : Int) := by omega
            have hJ1 : (j : Int) < (ats.length : Int) := by omega
            generalize ats[j].name = nj at *
            replace hgj := Lib.hid hgj
            have heq := eqB_comm nm nj
            have hbd : Below w.heap.size w wr.drew := hb03.drew
            cases hc : (nj.toList == nm.toList)
            · rw [hc] at heq
              replace heq := Lib.hid heq
              go_wp2_with fail
              go_region_held3 (fun w' => w'.cell? ⟨w.heap.size, 2, none⟩ = some (.slice (some ⟨b, off, none⟩) ats.length cap) ∧ w'.cell? ⟨b, off + i * 2, none⟩ = some (.string nm) ∧ w'.cell? ⟨b, off + j * 2, none⟩ = some (.string nj))
                (first
                  | go_keep
                  | assumption)
                (first
                  | fail)
              go_wp2_with fail
              go_roundw
              case rel =>
                refine ⟨j + 1, by omega, by go_num, Lib.hid (fun k' s h1 h2 => ?_), hbj.drew⟩
                by_cases e : k' = j
                · subst e
                  rw [hgj.out] at h2
                  cases h2
                  exact heq.out
                · exact hno.out k' s (by omega) h2
              case measure => exact meas_nat hji
            · rw [hc] at heq
              have hany := any_at (p := M3.eqB nm) hgj.out heq
              rw [hany] at hna
              replace hna : Hid (M3.namesE [] ats = 5) := hna
              rw [hna.out] at hr
              replace hr : Hid (M3.elemE (.mk k n ats t ks) = 5) := hr
              replace heq := Lib.hid heq
              clear hany
              go_wp2_with fail
              go_region_held3 (fun w' => w'.cell? ⟨w.heap.size, 2, none⟩ = some (.slice (some ⟨b, off, none⟩) ats.length cap) ∧ w'.cell? ⟨b, off + i * 2, none⟩ = some (.string nm) ∧ w'.cell? ⟨b, off + j * 2, none⟩ = some (.string nj))
                (first
                  | go_keep
                  | assumption)
                (first
                  | fail)
              go_wp2_with fail
              go_ret
              exact ⟨by rw [hr.out]; rfl, hbd⟩
          · obtain rfl : j = i := by omega
            have hany : (seenA ats j).any (M3.eqB nm) = false := by
              rw [List.any_eq_false]
              intro s hs
              obtain ⟨k', hk', e⟩ := List.mem_iff_getElem.1 hs
              rw [hsl.out] at hk'
              have := hno.out k' s hk' (by rw [List.getElem?_eq_getElem (by rw [hsl.out]; exact hk'), e])
              simpa using this
            rw [hany] at hna
            replace hna : Hid (M3.namesE [] ats = M3.namesE (seenA ats (j + 1)) (ats.drop (j + 1))) := hna
            clear hany hno
            go_wp2_with fail
            go_roundw
            case rel => exact ⟨j + 1, by omega, by go_num, hna, hb03, hbx3⟩
            case measure => exact meas_nat hlt
    · obtain rfl : i = ats.length := by omega
      have hv0 : M3.namesE [] ats = 0 := by rw [hv.out, List.drop_length]; rfl
      rw [hv0, if_pos rfl] at hr
      have hvv : Hid (M3.valuesE ats = M3.valuesE (ats.drop 0)) := rfl
      clear hv hv0
      obtain ⟨wo, rfl⟩ : ∃ wo : World, wo = wr := ⟨_, rfl⟩
      go_wp2_with fail
      go_loopw [7, 8] (fun u7 _ wr => ∃ i : Nat, i ≤ ats.length ∧ u7 = .int .i64 (i : Int) ∧ Hid (M3.valuesE ats = M3.valuesE (ats.drop i)) ∧ Below w.heap.size w wr ∧ Box wr w.heap.size 41 [.int .i64 k, .string n, .slice a ats.length cap, .string t, .slice a2 ks.length cap2]) (fun u7 _ _ => ats.length - (intOf u7).toNat)
      case atStart => exact ⟨0, by omega, rfl, hvv, hb, hbx⟩
      case round =>
        obtain ⟨i, hi, rfl, hv, hb, hbx⟩ := hrel
        clear hvv
        have hz := hbx.lt
        have q2 := hbx.cell (i := 2) rfl
        by_cases hlt : i < ats.length
        · obtain ⟨b, off, rfl, hSb, c0, c1⟩ := (hat.below hS hb).atA i hlt
          have hva := hv.out.trans (values_at ats i hlt)
          have hfa := (hf3.out _ (List.getElem_mem hlt)).2
          have hA := Lib.hid (fun W => ref01Is ats[i].value W hfa)
          generalize ats[i].value = vl at *
          generalize M1.isB vl.data.toList = p at *
          have hI0 : (0 : Int) ≤ (i : Int) := by omega
          have hI1 : (i : Int) < (ats.length : Int) := by omega
          clear hv
          cases p
          · replace hva : Hid (M3.valuesE ats = 2) := hva
            go_wp2_with fail
            refine (hA.out _).mono ?_
            rintro e w2 ⟨rfl, hb2⟩
            go_wp2
            go_ret
            exact ⟨by rw [hr.out, hva.out]; rfl, hb.trans (hb2.mono (by omega))⟩
          · replace hva : Hid (M3.valuesE ats = M3.valuesE (ats.drop (i + 1))) := hva
            go_wp2_with fail
            refine (hA.out _).mono ?_
            rintro e w2 ⟨rfl, hb2⟩
            have hbx2 := hbx.below hb2 hz
            clear hA
            go_wp2_with fail
            go_roundw
            case rel => exact ⟨i + 1, by omega, by go_num, hva, hb.trans (hb2.mono (by omega)), hbx2⟩
            case measure => exact meas_nat hlt
        · obtain rfl : i = ats.length := by omega
          have hv0 : Hid (M3.valuesE ats = 0) := by show _ = _; rw [hv.out, List.drop_length]; rfl
          clear hv
          go_wp2_with fail
          go_ret
          exact ⟨by rw [hr.out, hv0.out]; rfl, hb⟩

end Go.Proofs.YteefodibpjgicaaGreat

/- The reference of layer 3: which nodes may be, walked on. -/
namespace Go.Proofs.YteefodibpjgicaaGreat
open Go.RowKit
set_option maxHeartbeats 8000000 in
set_option maxRecDepth 100000 in
theorem ref03One (S : Nat → Prop) (x : Nd) (va vk : Value) (p : Bool) (w : World) (hS : ∀ b, S b → b < w.heap.size) (hx : RepV S w x va vk) (hf : Fit1 x) :
    Calls Tryz.prog 35 #[x.val va vk, .bool p] w (IntPost (M3.oneE x p) w) := by
  have hE := Lib.hid (fun W h1 h2 => ref03Element S x va vk W h1 h2 hf)
  obtain ⟨hat, hkd⟩ := hx
  have hx0 : RepV S w x va vk := ⟨hat, hkd⟩
  obtain ⟨a, cap, rfl⟩ := hat.slice
  obtain ⟨a2, cap2, rfl⟩ := hkd.slice
  cases x with | mk k n ats t ks =>
  obtain ⟨hf1, hf2, hf3, _⟩ := hf
  simp only [Nd.val, Nd.kind, Nd.name, Nd.text, Nd.attrs, Nd.kids] at *
  have hb0 := (Below.refl w.heap.size w).alloc (Nat.le_refl _) (.cells #[.int .i64 k, .string n, .slice a ats.length cap, .string t, .slice a2 ks.length cap2] 41)
  have hbx0 := Box.new w 41 [.int .i64 k, .string n, .slice a ats.length cap, .string t, .slice a2 ks.length cap2]
  have hxb := Lib.hid (hx0.below hS hb0)
  have hSb := Lib.hid (show ∀ b, S b → b < (w.alloc (.cells #[.int .i64 k, .string n, .slice a ats.length cap, .string t, .slice a2 ks.length cap2] 41)).heap.size from fun b h => by have := hS b h; simp; omega)
  have hI := Lib.hid (fun W => ref01Is t W hf2)
  have hr : Hid (M3.oneE (.mk k n ats t ks) p = if k = 1 then M3.elemE (.mk k n ats t ks) else if k = 2 then (if (n.toList.isEmpty && ats.isEmpty && ks.isEmpty) then (if M1.isB t.data.toList && !(t.toList.isEmpty || p) then 0 else 2) else 7) else if k = 3 then (if (n.toList.isEmpty && ats.isEmpty && ks.isEmpty) then (if M1.isB t.data.toList then 0 else 2) else 7) else 7) := rfl
  clear hat hkd hx0 hS hf3
  by_cases h1 : k = 1
  · subst h1
    rw [if_pos rfl] at hr
    clear hI
    go_enter Tryz.func35, Tryz.ntmps35
    go_wp2_with fail
    refine (hE.out _ hSb.out hxb.out).mono ?_
    rintro e w1 ⟨rfl, hb1⟩
    go_wp2
    go_ret
    exact ⟨by rw [hr.out]; rfl, hb0.trans (hb1.mono (by simp))⟩
  rw [if_neg h1] at hr
  have h1b : (k == 1) = false := by simpa using h1
  clear hE hxb hSb
  by_cases h23 : k = 2 ∨ k = 3
  · generalize M1.isB t.data.toList = q at *
    have seven : (n.toList.isEmpty && ats.isEmpty && ks.isEmpty) = false → Hid (M3.oneE (.mk k n ats t ks) p = 7) := by
      intro h
      show _ = _
      rw [hr.out, h]
      rcases h23 with rfl | rfl <;> simp
    have h2b : (k != 2) = !(k == 2) := rfl
    have h3b : (k != 3) = !(k == 3) := rfl
    cases hne : n.toList.isEmpty
    · have hr2 := seven (by rw [hne]; rfl)
      clear hr seven h2b h3b
      rcases h23 with rfl | rfl
      all_goals
        go_enter Tryz.func35, Tryz.ntmps35
        go_wp2
        go_ret
        exact ⟨by rw [hr2.out]; rfl, hb0⟩
    · cases ats with
      | cons a0 r0 =>
        have hr2 := seven (by simp)
        have hl1 : (0 : Int) < ((a0 :: r0).length : Int) := by simp
        generalize (a0 :: r0).length = m at *
        clear hr seven h2b h3b hb0 hbx0
        rcases h23 with rfl | rfl
        all_goals
          go_enter Tryz.func35, Tryz.ntmps35
          go_wp2
          go_ret
          exact ⟨by rw [hr2.out]; rfl, (Below.refl _ _).alloc (Nat.le_refl _) _⟩
      | nil =>
        simp only [List.length_nil] at hb0 hbx0
        cases ks with
        | cons a0 r0 =>
          have hr2 := seven (by simp)
          have hl1 : (0 : Int) < ((a0 :: r0).length : Int) := by simp
          generalize (a0 :: r0).length = m at *
          clear hr seven h2b h3b hb0 hbx0
          simp only [List.length_nil]
          rcases h23 with rfl | rfl
          all_goals
            go_enter Tryz.func35, Tryz.ntmps35
            go_wp2
            go_ret
            exact ⟨by rw [hr2.out]; rfl, (Below.refl _ _).alloc (Nat.le_refl _) _⟩
        | nil =>
          simp only [List.length_nil] at hb0 hbx0
          simp only [List.length_nil]
          clear seven h2b h3b
          rw [hne] at hr
          rcases h23 with rfl | rfl
          · replace hr : M3.oneE (.mk 2 n [] t []) p = if (q && !(t.toList.isEmpty || p)) then 0 else 2 := hr.out
            cases hte : t.toList.isEmpty <;> cases q <;> cases p
            all_goals
              rw [hte] at hr
              replace hr := Lib.hid hr
              go_enter Tryz.func35, Tryz.ntmps35
              go_wp2_with fail
              refine (hI.out _).mono ?_
              rintro e w1 ⟨rfl, hb1⟩
              have hbx1 := hbx0.below hb1 (by simp)
              have c0 := hbx1.cell (i := 0) rfl
              have c3 := hbx1.cell (i := 3) rfl
              go_wp2
              go_ret
              exact ⟨by rw [hr.out]; rfl, hb0.trans (hb1.mono (by simp))⟩
          · replace hr : M3.oneE (.mk 3 n [] t []) p = if q then 0 else 2 := hr.out
            cases q
            all_goals
              replace hr := Lib.hid hr
              go_enter Tryz.func35, Tryz.ntmps35
              go_wp2_with fail
              refine (hI.out _).mono ?_
              rintro e w1 ⟨rfl, hb1⟩
              have hbx1 := hbx0.below hb1 (by simp)
              have c0 := hbx1.cell (i := 0) rfl
              have c3 := hbx1.cell (i := 3) rfl
              go_wp2
              go_ret
              exact ⟨by rw [hr.out]; rfl, hb0.trans (hb1.mono (by simp))⟩
  · rw [if_neg (by omega), if_neg (by omega)] at hr
    have h2b : (k != 2) = true := by simp [bne]; omega
    have h3b : (k != 3) = true := by simp [bne]; omega
    clear h1 h23
    go_enter Tryz.func35, Tryz.ntmps35
    go_wp2
    go_ret
    exact ⟨by rw [hr.out]; rfl, hb0⟩

end Go.Proofs.YteefodibpjgicaaGreat

/- Layer 3: texts side by side are merged, and then may be. -/
namespace Go.Proofs.YteefodibpjgicaaGreat
open Go.RowKit Go.ChangeShapes Go.WideShapes
section
variable {H : Type} {enc : TypeId × Value → H} {w : World} {base : Nat} {spare : Nat → Bool} {held : Bool}
end
theorem Row.atS {S : Nat → Prop} {w : World} {a : Option Addr} {n cap : Nat} {l : List ByteArray} (h : Row S w 1 (.slice a n cap) l.length (l.flatMap fun s => [.string s])) (i : Nat) (hi : i < l.length) :
    ∃ b off, a = some ⟨b, off, none⟩ ∧ S b ∧ w.cell? ⟨b, off + i, none⟩ = some (.string l[i]) := by
  obtain ⟨h0, a', cap', h1, h2, h3, h4, h5⟩ := h
  cases h1
  obtain ⟨b, off, rfl, h7, h8⟩ := h5 (by omega)
  refine ⟨b, off, rfl, h7, h8 i _ ?_⟩
  have : l.flatMap (fun s => [Value.string s]) = l.map Value.string := (List.map_eq_flatMap).symm
  rw [this, List.getElem?_map, List.getElem?_eq_getElem hi]; rfl

theorem fitN_iff {l : List Nd} : FitN l ↔ ∀ x ∈ l, Fit1 x ∧ FitN x.kids := by
  induction l with
  | nil => simp [fitN_nil]
  | cons x r ih => rw [fitN_cons, ih]; simp; exact ⟨fun h => ⟨⟨h.1, h.2.1⟩, h.2.2⟩, fun h => ⟨h.1.1, h.1.2, h.2⟩⟩
end Go.Proofs.YteefodibpjgicaaGreat

/- The reference of layer 3: May. -/
namespace Go.Proofs.YteefodibpjgicaaGreat
open Go.RowKit
def behind (l : List Nd) : Nat → Bool
  | 0 => false
  | i + 1 => match l[i]? with | some x => x.kind == 2 | none => false

theorem behind_succ (l : List Nd) (i : Nat) (h : i < l.length) : behind l (i + 1) = (l[i].kind == 2) := by
  show (match l[i]? with | some x => x.kind == 2 | none => false) = _
  rw [List.getElem?_eq_getElem h]

theorem may_drop (l : List Nd) (i : Nat) (h : i < l.length) : M3.mayE (behind l i) (l.drop i) = if M3.oneE l[i] (behind l i) ≠ 0 then M3.oneE l[i] (behind l i) else if M3.mayE false l[i].kids ≠ 0 then M3.mayE false l[i].kids else M3.mayE (behind l (i + 1)) (l.drop (i + 1)) := by
  rw [List.drop_eq_getElem_cons h, M3.mayE_cons, behind_succ l i h]

theorem wpStill_skip {P : Program} {ops : Array Oper} {w : World} {Q : Act → Prop} {a : Act} {o : Oper} {rest : List Oper} (hw : Region.wanted o (yielded ops a.tmps) = false)
    (h : ∀ K : Act → Prop, (∀ a, wpStill P ops w Q rest a → K a) → K (a.put o.dst undef)) : wpStill P ops w Q (o :: rest) a := by
  unfold wpStill
  rw [if_neg (by simp [hw])]
  exact h _ (fun _ h => h)

set_option maxHeartbeats 8000000 in
set_option maxRecDepth 100000 in
theorem ref03May (wt : Nat) : ∀ (S : Nat → Prop) (v : Value) (l : List Nd) (w : World), M3.weight l < wt → FitN l → (∀ b, S b → b < w.heap.size) → RepN S w v l →
    Calls Tryz.prog 19 #[v] w (IntPost (M3.mayE false l) w) := by
  induction wt with
  | zero => intro S v l w h; omega
  | succ wt ih =>
  intro S v l w hwt hfit hS hr
  obtain ⟨a, cap, rfl⟩ := hr.slice
  obtain ⟨_, hlc, hcm⟩ := hr.len
  replace ih := Lib.hid ih
  have h0 : Hid (M3.mayE false l = M3.mayE (behind l 0) (l.drop 0)) := rfl
  replace hfit := Lib.hid hfit
  go_enter Tryz.func19, Tryz.ntmps19
  go_wp2_with fail
  go_loopw [3, 4] (fun u3 _ wr => ∃ i : Nat, i ≤ l.length ∧ u3 = .int .i64 (i : Int) ∧ Hid (M3.mayE false l = M3.mayE (behind l i) (l.drop i)) ∧ Below w.heap.size w wr) (fun u3 _ _ => l.length - (intOf u3).toNat)
  case atStart => exact ⟨0, by omega, rfl, h0, Below.refl _ _⟩
  case round =>
    obtain ⟨i, hi, rfl, hv, hb⟩ := hrel
    have hz := hb.size
    by_cases hlt : i < l.length
    · have hr1 := hr.below hS hb
      obtain ⟨b, off, va, vk, rfl, hSb, c0, c1, c2, c3, c4, hrv⟩ := hr1.at_ i hlt
      have hbl := hS b hSb
      have hmd := hv.out.trans (may_drop l i hlt)
      obtain ⟨hf1, hf2⟩ := fitN_iff.1 hfit.out _ (List.getElem_mem hlt)
      have hwk := weight_mem (List.getElem_mem hlt)
      have hprev : ∀ _ : 0 < i, wr.cell? ⟨b, off + (i - 1) * 5, none⟩ = some (.int .i64 l[i - 1].kind) ∧ behind l i = (l[i - 1].kind == 2) := by
        intro h
        obtain ⟨b', off', va', vk', e, _, d0, _⟩ := hr1.at_ (i - 1) (by omega)
        cases e
        refine ⟨d0, ?_⟩
        have := behind_succ l (i - 1) (by omega)
        rwa [show i - 1 + 1 = i by omega] at this
      generalize l[i] = x at *
      have hrv0 := hrv
      obtain ⟨a1, e1, rfl⟩ := hrv.at_.slice
      obtain ⟨a2, e2, rfl⟩ := hrv.kids.slice
      have hOne := Lib.hid (fun p => ref03One S x _ _ p wr.drew (fun b h => by have := hS b h; simp; omega) (hrv0.keep (fun _ _ => rfl)) hf1)
      have hih := Lib.hid (fun W (hW : Below wr.heap.size wr W) => ih.out S (.slice a2 x.kids.length e2) x.kids W (by omega) hf2 (fun b h => by have := hS b h; have := hW.size; omega) (RepN.below (w := wr) (B := wr.heap.size) hrv.kids (fun b h => by have := hS b h; omega) hW))
      generalize hrest : M3.mayE (behind l (i + 1)) (l.drop (i + 1)) = rest at *
      replace hrest := Lib.hid hrest
      have hI0 : (0 : Int) ≤ (i : Int) := by omega
      have hI1 : (i : Int) < (l.length : Int) := by omega
      clear hv hr1 hrv0
      replace hmd := Lib.hid hmd
      by_cases hi0 : 0 < i
      · obtain ⟨d0, hbe⟩ := hprev hi0
        have hmd := hmd.out
        rw [hbe] at hmd
        have hi1 : (0 : Int) < (i : Int) := by omega
        have hj1 : (i : Int) - 1 = ((i - 1 : Nat) : Int) := by omega
        have hj2 : ((i - 1 : Nat) : Int) < (l.length : Int) := by omega
        have hj3 : (0 : Int) ≤ ((i - 1 : Nat) : Int) := by omega
        have hj5 : IntKind.i64.wrap ((i - 1 : Nat) : Int) = ((i - 1 : Nat) : Int) := IntWalk.i64_in _ ⟨by omega, by omega⟩
        have hj4 : i - 1 < l.length := by omega
        clear hprev
        generalize l[i - 1].kind = pk at *
        obtain ⟨j, hj⟩ : ∃ j, i - 1 = j := ⟨_, rfl⟩
        rw [hj] at d0 hj1 hj2 hj3 hj4 hj5
        clear hj
        generalize hpq : (pk == 2) = pq at *
        go_wp2_with fail
        go_still_tail 15, (by kernel_rfl)
        change wpList _ _ _ _ _ wr.drew
        go_wp2_with fail
        refine (hOne.out pq).mono ?_
        rintro e w2 ⟨rfl, hb2⟩
        have hbw2 : Below wr.heap.size wr w2 := ((Below.refl _ wr).drew).trans hb2
        have hz2 := hbw2.size
        have c4' := (hbw2.cell (p := ⟨b, off + i * 5 + 4, none⟩) (by simp; omega)).trans c4
        clear hOne c0 c1 c2 c3 c4
        generalize M3.oneE x pq = z at *
        by_cases hz1 : z = 0
        · have hz1b : (z == 0) = true := by simpa using hz1
          rw [hz1, if_neg (by simp)] at hmd
          replace hz1 := Lib.hid hz1
          have hk2 := Lib.hid (hih.out w2 hbw2)
          clear hih
          go_wp2_with fail
          refine hk2.out.mono ?_
          rintro e w3 ⟨rfl, hb3⟩
          have hbw3 : Below w.heap.size w w3 := (hb.trans (hbw2.mono hz)).trans (hb3.mono (by omega))
          clear hk2 c4'
          generalize M3.mayE false x.kids = y at *
          by_cases hy : y = 0
          · rw [hy, if_neg (by simp)] at hmd
            have hy1 : (y == 0) = true := by simpa using hy
            replace hy := Lib.hid hy
            go_wp2_with fail
            go_roundw
            case rel => exact ⟨i + 1, by omega, by go_num, by show _ = _; rw [hmd, hrest.out], hbw3⟩
            case measure => exact meas_nat hlt
          · rw [if_pos hy] at hmd
            have hy1 : (y == 0) = false := by simpa using hy
            replace hmd := Lib.hid hmd
            go_wp2_with fail
            go_ret
            exact ⟨by rw [hmd.out]; rfl, hbw3⟩
        · rw [if_pos hz1] at hmd
          have hz1b : (z == 0) = false := by simpa using hz1
          replace hmd := Lib.hid hmd
          clear hih
          go_wp2_with fail
          go_ret
          exact ⟨by rw [hmd.out]; rfl, hb.trans (hbw2.mono hz)⟩
      · clear hprev
        have hmd := hmd.out
        have hbe : behind l i = false := by
          have : i = 0 := by omega
          subst this; rfl
        rw [hbe] at hmd
        obtain ⟨q, hd3⟩ : ∃ q, decide (0 < i) = q := ⟨_, rfl⟩
        have hq2 : Hid (q = false) := by show _ = _; rw [← hd3]; exact decide_eq_false hi0
        replace hi0 := Lib.hid hi0
        go_wp2_with fail
        refine wp_region_still_tail 15 (by kernel_rfl) (by kernel_rfl) ?_
        simp only [List.take_succ_cons, List.take_zero, List.drop_succ_cons, List.drop_zero]
        iterate 7 still_step
        iterate 7
          refine wpStill_skip (by simp [Region.wanted, yielded, hq2.out]) (fun K hK => ?_)
          go_simp
          refine hK _ ?_
          clear hK K
        obtain rfl : q = false := hq2.out
        still_step
        refine wpStill_nil ?_
        change wpList _ _ _ _ _ wr.drew
        go_wp2_with fail
        refine (hOne.out false).mono ?_
        rintro e w2 ⟨rfl, hb2⟩
        have hbw2 : Below wr.heap.size wr w2 := ((Below.refl _ wr).drew).trans hb2
        have hz2 := hbw2.size
        have c4' := (hbw2.cell (p := ⟨b, off + i * 5 + 4, none⟩) (by simp; omega)).trans c4
        clear hOne c0 c1 c2 c3 c4
        generalize M3.oneE x false = z at *
        by_cases hz1 : z = 0
        · have hz1b : (z == 0) = true := by simpa using hz1
          rw [hz1, if_neg (by simp)] at hmd
          replace hz1 := Lib.hid hz1
          have hk2 := Lib.hid (hih.out w2 hbw2)
          clear hih
          go_wp2_with fail
          refine hk2.out.mono ?_
          rintro e w3 ⟨rfl, hb3⟩
          have hbw3 : Below w.heap.size w w3 := (hb.trans (hbw2.mono hz)).trans (hb3.mono (by omega))
          clear hk2 c4'
          generalize M3.mayE false x.kids = y at *
          by_cases hy : y = 0
          · rw [hy, if_neg (by simp)] at hmd
            have hy1 : (y == 0) = true := by simpa using hy
            replace hy := Lib.hid hy
            go_wp2_with fail
            go_roundw
            case rel => exact ⟨i + 1, by omega, by go_num, by show _ = _; rw [hmd, hrest.out], hbw3⟩
            case measure => exact meas_nat hlt
          · rw [if_pos hy] at hmd
            have hy1 : (y == 0) = false := by simpa using hy
            replace hmd := Lib.hid hmd
            go_wp2_with fail
            go_ret
            exact ⟨by rw [hmd.out]; rfl, hbw3⟩
        · rw [if_pos hz1] at hmd
          have hz1b : (z == 0) = false := by simpa using hz1
          replace hmd := Lib.hid hmd
          clear hih
          go_wp2_with fail
          go_ret
          exact ⟨by rw [hmd.out]; rfl, hb.trans (hbw2.mono hz)⟩
    · obtain rfl : i = l.length := by omega
      rw [List.drop_length, M3.mayE_nil] at hv
      go_wp2_with fail
      go_ret
      exact ⟨by rw [hv.out]; rfl, hb⟩

end Go.Proofs.YteefodibpjgicaaGreat

/- Layer 3 by plain definitions: nodes that may be, made of any. No program in it. -/
namespace Go.Proofs.YteefodibpjgicaaGreat
namespace M3
theorem nilB_empty : nilB ⟨#[]⟩ = true := nilB_iff.2 rfl
def wordsL : List ByteArray := [⟨#[97]⟩, ⟨#[98]⟩, ⟨#[112]⟩, ⟨#[117, 108]⟩, ⟨#[108, 105]⟩, ⟨#[98, 114]⟩, ⟨#[105, 109, 103]⟩, ⟨#[100, 105, 118]⟩, ⟨#[115, 99, 114, 105, 112, 116]⟩, ⟨#[120, 45, 121]⟩]
def attrsL : List ByteArray := [⟨#[105, 100]⟩, ⟨#[104, 114, 101, 102]⟩, ⟨#[116, 105, 116, 108, 101]⟩, ⟨#[100, 97, 116, 97, 45, 97]⟩, ⟨#[111, 110, 99, 108, 105, 99, 107]⟩]
def sumB (l : List UInt8) : Nat := (l.map UInt8.toNat).sum
def wordN (s : ByteArray) : ByteArray := if namedB s.data.toList then s else wordsL.getD (sumB s.data.toList % 10) ⟨#[]⟩
def attrN (s : ByteArray) : ByteArray := if attributedB s.data.toList then s else attrsL.getD (s.size % 5) ⟨#[]⟩
def rightN (s : ByteArray) : ByteArray := ⟨(M1.right s.data.toList).toArray⟩
theorem rightN_isB (s : ByteArray) : M1.isB (rightN s).data.toList = true := M1.isB_right _
theorem rightN_size (s : ByteArray) : (rightN s).size ≤ 4 * s.size := M1.right_len s.data.toList
theorem isB_lo (l : List UInt8) (h : ∀ c ∈ l, c.toNat < 128 ∧ c.toNat ≠ 0 ∧ c.toNat ≠ 13) : M1.isB l = true := by
  induction l with
  | nil => exact M1.isB_nil
  | cons c t ih =>
    obtain ⟨h1, h2, h3⟩ := h c (by simp)
    rw [M1.isB_step _ (by simp)]
    have hd : M1.dec (c :: t) = (c.toNat, 1) := M2.dec_lo c t h1
    rw [hd]
    have h4 : c.toNat ≠ 65533 := by omega
    simp [h2, h3, h4]
    exact ih (fun x hx => h x (by simp [hx]))
theorem wordsL_ok : ∀ i, i < 10 → namedB (wordsL.getD i ⟨#[]⟩).data.toList = true ∧ (wordsL.getD i ⟨#[]⟩).size ≤ 6 := by decide
theorem attrsL_low : ∀ i, i < 5 → ((attrsL.getD i ⟨#[]⟩).data.toList.all fun c => decide (c.toNat < 128 ∧ c.toNat ≠ 0 ∧ c.toNat ≠ 13)) = true ∧ !(attrsL.getD i ⟨#[]⟩).data.toList.isEmpty = true ∧ (attrsL.getD i ⟨#[]⟩).data.toList.any capB = false ∧ (attrsL.getD i ⟨#[]⟩).data.toList.any badB = false ∧ (attrsL.getD i ⟨#[]⟩).size ≤ 7 := by decide
theorem wordN_ok (s : ByteArray) : namedB (wordN s).data.toList = true := by
  unfold wordN
  split
  · assumption
  · exact (wordsL_ok _ (Nat.mod_lt _ (by decide))).1
theorem wordN_size (s : ByteArray) (b : Nat) (h : s.size ≤ b) (h6 : 6 ≤ b) : (wordN s).size ≤ b := by
  unfold wordN
  split
  · exact h
  · have := (wordsL_ok _ (Nat.mod_lt (sumB s.data.toList) (by decide : 0 < 10))).2; omega
theorem attrN_ok (s : ByteArray) : attributedB (attrN s).data.toList = true := by
  unfold attrN
  split
  · assumption
  · obtain ⟨h1, h2, h3, h4, _⟩ := attrsL_low _ (Nat.mod_lt s.size (by decide : 0 < 5))
    unfold attributedB
    have h5 : M1.isB (attrsL.getD (s.size % 5) ⟨#[]⟩).data.toList = true := isB_lo _ (fun c hc => by have := List.all_eq_true.1 h1 c hc; simpa using this)
    rw [h5, h3, h4]
    simpa using h2
theorem attrN_size (s : ByteArray) (b : Nat) (h : s.size ≤ b) (h7 : 7 ≤ b) : (attrN s).size ≤ b := by
  unfold attrN
  split
  · exact h
  · have := (attrsL_low _ (Nat.mod_lt s.size (by decide : 0 < 5))).2.2.2.2; omega

/-- Attributes: of one name the first. -/
def addA (acc : List Att) (a : Att) : List Att := if (valueOf (attrN a.name) acc).isSome then acc else acc ++ [⟨attrN a.name, rightN a.value⟩]
def goodA (l : List Att) : List Att := l.foldl addA []
theorem goodA_snoc (l : List Att) (a : Att) : goodA (l ++ [a]) = addA (goodA l) a := by simp [goodA]
def kindN (k : Int) : Int := if k < 1 ∨ 3 < k then 1 else k
def goodN : List Nd → List Nd
  | [] => []
  | .mk k n a t ks :: r => push' (if kindN k = 1 then .mk 1 (wordN n) (goodA a) ⟨#[]⟩ (merge (goodN ks)) else .mk (kindN k) ⟨#[]⟩ [] (rightN t) []) (goodN r)
termination_by l => SizeOf.sizeOf l
where push' (x : Nd) (r : List Nd) : List Nd := x :: r
theorem goodN_nil : goodN [] = [] := by rw [goodN]
def good1 (x : Nd) : Nd := if kindN x.kind = 1 then .mk 1 (wordN x.name) (goodA x.attrs) ⟨#[]⟩ (merge (goodN x.kids)) else .mk (kindN x.kind) ⟨#[]⟩ [] (rightN x.text) []
theorem good1_mk (k : Int) (n : ByteArray) (a : List Att) (t : ByteArray) (ks : List Nd) : good1 (.mk k n a t ks) = if kindN k = 1 then .mk 1 (wordN n) (goodA a) ⟨#[]⟩ (merge (goodN ks)) else .mk (kindN k) ⟨#[]⟩ [] (rightN t) [] := rfl
theorem goodN_cons (x : Nd) (r : List Nd) : goodN (x :: r) = good1 x :: goodN r := by cases x; rw [goodN]; rfl
theorem goodN_map (l : List Nd) : goodN l = l.map good1 := by
  induction l with
  | nil => exact goodN_nil
  | cons x r ih => rw [goodN_cons, ih]; rfl
/-- Nodes that may be, made of any. -/
def good (l : List Nd) : List Nd := merge (goodN l)

theorem addA_len (acc : List Att) (a : Att) : (addA acc a).length ≤ acc.length + 1 := by unfold addA; split <;> simp
theorem goodA_len (l : List Att) : (goodA l).length ≤ l.length := by
  have key : ∀ (l acc : List Att), (l.foldl addA acc).length ≤ acc.length + l.length := by
    intro l
    induction l with
    | nil => intro acc; exact Nat.le_refl _
    | cons a r ih => intro acc; have h1 := ih (addA acc a); have h2 := addA_len acc a; rw [List.foldl_cons, List.length_cons]; omega
  have := key l []
  simpa [goodA] using this
theorem valueOf_none (nm : ByteArray) (l : List Att) : valueOf nm l = none ↔ ∀ a ∈ l, eqB a.name nm = false := by
  induction l with
  | nil => simp [valueOf]
  | cons a r ih =>
    rw [valueOf]
    cases h : eqB a.name nm
    · simp [ih, h]
    · simp [h]
/-- What each attribute that is put keeps. -/
theorem goodA_all {P : Att → Prop} (l : List Att) (h : ∀ a ∈ l, P ⟨attrN a.name, rightN a.value⟩) : ∀ a ∈ goodA l, P a := by
  have key : ∀ (l acc : List Att), (∀ a ∈ l, P ⟨attrN a.name, rightN a.value⟩) → (∀ a ∈ acc, P a) → ∀ a ∈ l.foldl addA acc, P a := by
    intro l
    induction l with
    | nil => intro acc _ h; exact h
    | cons a r ih =>
      intro acc h1 h2
      rw [List.foldl_cons]
      refine ih _ (fun x hx => h1 x (by simp [hx])) ?_
      unfold addA
      split
      · exact h2
      · intro x hx
        rcases List.mem_append.1 hx with hx | hx
        · exact h2 x hx
        · simp at hx; subst hx; exact h1 a (by simp)
  exact key l [] h (fun a ha => by cases ha)
def Uniq : List Att → Prop
  | [] => True
  | a :: r => (∀ b ∈ r, eqB b.name a.name = false) ∧ Uniq r
theorem uniq_snoc {l : List Att} {a : Att} (h : Uniq l) (ha : ∀ b ∈ l, eqB b.name a.name = false) : Uniq (l ++ [a]) := by
  induction l with
  | nil => exact ⟨(fun b hb => by cases hb), trivial⟩
  | cons b r ih =>
    refine ⟨fun c hc => ?_, ih h.2 (fun c hc => ha c (by simp [hc]))⟩
    rcases List.mem_append.1 hc with hc | hc
    · exact h.1 c hc
    · simp at hc; subst hc
      have := ha b (by simp)
      rw [eqB_false] at this ⊢
      exact fun e => this e.symm
theorem goodA_uniq (l : List Att) : Uniq (goodA l) := by
  have key : ∀ (l acc : List Att), Uniq acc → Uniq (l.foldl addA acc) := by
    intro l
    induction l with
    | nil => intro acc h; exact h
    | cons a r ih =>
      intro acc h
      rw [List.foldl_cons]
      refine ih _ ?_
      unfold addA
      split
      · exact h
      · rename_i hn
        have hn' : valueOf (attrN a.name) acc = none := by
          cases hv : valueOf (attrN a.name) acc with
          | none => rfl
          | some _ => rw [hv] at hn; simp at hn
        exact uniq_snoc h ((valueOf_none _ _).1 hn')
  exact key l [] trivial
theorem names_ok (l : List Att) : ∀ seen : List ByteArray, (∀ a ∈ l, attributedB a.name.data.toList = true) → Uniq l → (∀ a ∈ l, ∀ s ∈ seen, eqB a.name s = false) → namesE seen l = 0 := by
  induction l with
  | nil => intro seen _ _ _; rfl
  | cons a r ih =>
    intro seen h1 h2 h3
    have hs : seen.any (eqB a.name) = false := by
      rw [List.any_eq_false]
      intro s hs
      simpa using h3 a (by simp) s hs
    rw [namesE, h1 a (by simp), if_pos rfl, hs, if_neg (by simp)]
    refine ih _ (fun b hb => h1 b (by simp [hb])) h2.2 (fun b hb s hs => ?_)
    rcases List.mem_append.1 hs with hs | hs
    · exact h3 b (by simp [hb]) s hs
    · simp at hs; subst hs; exact h2.1 b hb
theorem values_ok (l : List Att) (h : ∀ a ∈ l, M1.isB a.value.data.toList = true) : valuesE l = 0 := by
  induction l with
  | nil => rfl
  | cons a r ih => rw [valuesE, h a (by simp), if_pos rfl, ih (fun b hb => h b (by simp [hb]))]
theorem kindN_in (k : Int) : kindN k = 1 ∨ kindN k = 2 ∨ kindN k = 3 := by unfold kindN; split <;> omega
theorem good_ok (l : List Nd) : ∀ x ∈ goodN l, okP x := by
  induction l using Nd.ind with
  | h0 => intro x hx; rw [goodN_nil] at hx; cases hx
  | h1 k n at_ t ks r ih1 ih2 =>
    intro x hx
    rw [goodN_cons] at hx
    rcases List.mem_cons.1 hx with rfl | hx
    · rw [good1_mk]
      by_cases h1 : kindN k = 1
      · rw [if_pos h1]
        have hk : isText (.mk 1 (wordN n) (goodA at_) ⟨#[]⟩ (merge (goodN ks))) = false := rfl
        unfold okP
        rw [hk, if_neg (by simp)]
        refine ⟨?_, may_merge _ ih1⟩
        show elemE _ = 0
        show (if nilB ⟨#[]⟩ = true then (if namedB (wordN n).data.toList = true then (if namesE [] (goodA at_) = 0 then valuesE (goodA at_) else namesE [] (goodA at_)) else 4) else 7) = (0 : Int)
        rw [nilB_empty, wordN_ok, names_ok _ [] (goodA_all at_ (fun a _ => attrN_ok _)) (goodA_uniq _) (fun _ _ s hs => by cases hs), values_ok _ (goodA_all at_ (fun a _ => rightN_isB _))]
        rfl
      · rw [if_neg h1]
        rcases kindN_in k with h | h | h
        · exact absurd h h1
        · rw [h]
          exact ⟨by show (nilB ⟨#[]⟩ && ([] : List Att).isEmpty && ([] : List Nd).isEmpty) = true; rw [nilB_empty]; rfl, rightN_isB t⟩
        · rw [h]
          refine ⟨?_, mayE_nil _⟩
          show (if (nilB ⟨#[]⟩ && ([] : List Att).isEmpty && ([] : List Nd).isEmpty) = true then (if M1.isB (rightN t).data.toList = true then (0 : Int) else 2) else 7) = 0
          rw [nilB_empty, rightN_isB]; rfl
    · exact ih2 x hx
theorem good_may (l : List Nd) : mayE false (good l) = 0 := may_merge _ (good_ok l)
end M3
end Go.Proofs.YteefodibpjgicaaGreat

/- The reference of layer 3: an element's name, an attribute's name, of any text. -/
namespace Go.Proofs.YteefodibpjgicaaGreat
open Go.RowKit
theorem sumB_succ (l : List UInt8) (k : Nat) (h : k < l.length) : M3.sumB (l.take (k + 1)) = M3.sumB (l.take k) + l[k].toNat := by
  unfold M3.sumB
  rw [List.take_succ_eq_append_getElem h, List.map_append, List.sum_append]
  simp

theorem sumB_le (l : List UInt8) : M3.sumB l ≤ 255 * l.length := by
  unfold M3.sumB
  induction l with
  | nil => simp
  | cons c r ih => simp only [List.map_cons, List.sum_cons, List.length_cons]; have := c.toNat_lt; omega

def StrPost (s : ByteArray) (w : World) (e : Ending) (w' : World) : Prop := e = .returned (.string s) ∧ Below w.heap.size w w'

set_option maxHeartbeats 4000000 in
set_option maxRecDepth 100000 in
theorem ref03Word (s : ByteArray) (w : World) (hs : s.size ≤ 1073741824) : Calls Tryz.prog 47 #[.string s] w (StrPost (M3.wordN s) w) := by
  have hN := Lib.hid (fun W => ref03Named s W (by omega))
  have hw : Hid (M3.wordN s = if M3.namedB s.data.toList then s else M3.wordsL.getD (M3.sumB s.data.toList % 10) ⟨#[]⟩) := rfl
  generalize M3.namedB s.data.toList = p at *
  have hbx := Box.new w 9 (M3.wordsL.map Value.string)
  have hb0 : Below w.heap.size w (w.alloc (.cells (M3.wordsL.map Value.string).toArray 9)) := (Below.refl _ _).alloc (Nat.le_refl _) _
  have hlen : s.data.toList.length = s.size := rfl
  have hle := sumB_le s.data.toList
  go_enter Tryz.func47, Tryz.ntmps47
  go_wp2_with fail
  obtain ⟨W0, hW0⟩ : ∃ W0, w.alloc (.cells (M3.wordsL.map Value.string).toArray 9) = W0 := ⟨_, rfl⟩
  rw [hW0] at hbx hb0
  change w.alloc (.cells #[.string ⟨#[97]⟩, .string ⟨#[98]⟩, .string ⟨#[112]⟩, .string ⟨#[117, 108]⟩, .string ⟨#[108, 105]⟩, .string ⟨#[98, 114]⟩, .string ⟨#[105, 109, 103]⟩, .string ⟨#[100, 105, 118]⟩, .string ⟨#[115, 99, 114, 105, 112, 116]⟩, .string ⟨#[120, 45, 121]⟩] 9) = W0 at hW0
  rw [hW0]
  clear hW0
  go_loop [4, 5] (fun u4 u5 => ∃ k : Nat, k ≤ s.size ∧ u5 = .int .i64 (k : Int) ∧ u4 = .int .i64 (M3.sumB (s.data.toList.take k) : Int)) (fun _ u5 => s.size - (intOf u5).toNat)
  case atStart => exact ⟨0, by omega, rfl, by simp [M3.sumB]⟩
  case round =>
    obtain ⟨k, hk, rfl, rfl⟩ := hrel
    have hl2 := sumB_le (s.data.toList.take k)
    have hl3 : (s.data.toList.take k).length ≤ k := List.length_take_le _ _
    by_cases hlt : k < s.size
    · have hsu := sumB_succ s.data.toList k hlt
      have hsu2 : Hid (M3.sumB (s.data.toList.take (k + 1)) = M3.sumB (s.data.toList.take k) + s[k].toNat) := hsu
      clear hsu
      have hb := s[k].toNat_lt
      generalize M3.sumB (s.data.toList.take k) = m at *
      go_wp2_with fail
      go_round
      case rel => exact ⟨k + 1, by omega, by go_num, by rw [hsu2.out]; go_num⟩
      case measure => exact meas_nat hlt
    · obtain rfl : k = s.size := by omega
      rw [List.take_of_length_le (show s.data.toList.length ≤ s.size from Nat.le_refl _)] at *
      generalize M3.sumB s.data.toList = m at *
      cases p
      · replace hw : Hid (M3.wordN s = M3.wordsL.getD (m % 10) ⟨#[]⟩) := hw
        go_wp2_with fail
        refine (hN.out _).mono ?_
        rintro e w1 ⟨rfl, rfl⟩
        have hm10 : m % 10 < 10 := Nat.mod_lt _ (by decide)
        have hcell := hbx.cell (i := m % 10) (v := .string (M3.wordsL.getD (m % 10) ⟨#[]⟩)) (by
          rw [List.getElem?_map, List.getElem?_eq_getElem (by exact hm10), List.getD_eq_getElem?_getD, List.getElem?_eq_getElem (by exact hm10)]; rfl)
        generalize M3.wordsL.getD (m % 10) ⟨#[]⟩ = ans at *
        have hm0 : (0 : Int) ≤ (m : Int) := by omega
        have hmi : (m : Int) % 10 = ((m % 10 : Nat) : Int) := by omega
        have hmj : ((m % 10 : Nat) : Int) < 10 := by omega
        generalize m % 10 = j at *
        go_wp2_with fail
        go_ret
        exact ⟨by rw [hw.out]; rfl, hb0⟩
      · replace hw : Hid (M3.wordN s = s) := hw
        go_wp2_with fail
        refine (hN.out _).mono ?_
        rintro e w1 ⟨rfl, rfl⟩
        go_wp2_with fail
        go_ret
        exact ⟨by rw [hw.out]; rfl, hb0⟩

set_option maxHeartbeats 4000000 in
set_option maxRecDepth 100000 in
theorem ref03Attribute (s : ByteArray) (w : World) (hs : s.size ≤ 268435456) : Calls Tryz.prog 48 #[.string s] w (StrPost (M3.attrN s) w) := by
  have hN := Lib.hid (ref03Attributed s w hs)
  have hw : Hid (M3.attrN s = if M3.attributedB s.data.toList then s else M3.attrsL.getD (s.size % 5) ⟨#[]⟩) := rfl
  generalize M3.attributedB s.data.toList = p at *
  go_enter Tryz.func48, Tryz.ntmps48
  go_wp2_with fail
  refine hN.out.mono ?_
  rintro e w1 ⟨rfl, hb1⟩
  cases p
  · replace hw : Hid (M3.attrN s = M3.attrsL.getD (s.size % 5) ⟨#[]⟩) := hw
    have hbx := Box.new w1 9 (M3.attrsL.map Value.string)
    have hb0 : Below w1.heap.size w1 (w1.alloc (.cells (M3.attrsL.map Value.string).toArray 9)) := (Below.refl _ _).alloc (Nat.le_refl _) _
    have hm10 : s.size % 5 < 5 := Nat.mod_lt _ (by decide)
    have hcell := hbx.cell (i := s.size % 5) (v := .string (M3.attrsL.getD (s.size % 5) ⟨#[]⟩)) (by
      rw [List.getElem?_map, List.getElem?_eq_getElem (by exact hm10), List.getD_eq_getElem?_getD, List.getElem?_eq_getElem (by exact hm10)]; rfl)
    have hbb : Below w.heap.size w (w1.alloc (.cells (M3.attrsL.map Value.string).toArray 9)) := bt hb1 hb0
    change (w1.alloc (.cells #[.string ⟨#[105, 100]⟩, .string ⟨#[104, 114, 101, 102]⟩, .string ⟨#[116, 105, 116, 108, 101]⟩, .string ⟨#[100, 97, 116, 97, 45, 97]⟩, .string ⟨#[111, 110, 99, 108, 105, 99, 107]⟩] 9)).cell? _ = _ at hcell
    change Below w.heap.size w (w1.alloc (.cells #[.string ⟨#[105, 100]⟩, .string ⟨#[104, 114, 101, 102]⟩, .string ⟨#[116, 105, 116, 108, 101]⟩, .string ⟨#[100, 97, 116, 97, 45, 97]⟩, .string ⟨#[111, 110, 99, 108, 105, 99, 107]⟩] 9)) at hbb
    generalize M3.attrsL.getD (s.size % 5) ⟨#[]⟩ = ans at *
    have hmi : (s.size : Int) % 5 = ((s.size % 5 : Nat) : Int) := by omega
    have hmj : ((s.size % 5 : Nat) : Int) < 5 := by omega
    have hmk : (0 : Int) ≤ (s.size : Int) := by omega
    generalize s.size % 5 = j at *
    clear hbx hb0
    go_wp2_with fail
    go_ret
    exact ⟨by rw [hw.out]; rfl, hbb⟩
  · replace hw : Hid (M3.attrN s = s) := hw
    go_wp2_with fail
    go_ret
    exact ⟨by rw [hw.out]; rfl, hb1⟩

end Go.Proofs.YteefodibpjgicaaGreat

/- Layer 3: values of attributes. -/
namespace Go.Proofs.YteefodibpjgicaaGreat
open Go.RowKit
set_option maxHeartbeats 1000000 in
set_option maxRecDepth 100000 in
theorem ref03Value (S : Nat → Prop) (x : Nd) (va vk : Value) (name : ByteArray) (w : World) (hS : ∀ b, S b → b < w.heap.size) (hat : Row S w 2 va x.attrs.length (cellsA x.attrs)) (hvk : ∃ a n c, vk = .slice a n c) :
    Calls Tryz.prog 49 #[x.val va vk, .string name] w fun e w' => e = .returned (valAns (M3.valueOf name x.attrs)) ∧ Below w.heap.size w w' := by
  obtain ⟨a, cap, rfl⟩ := hat.slice
  obtain ⟨_, hlc, hcm⟩ := hat.len
  obtain ⟨a2, n2, cap2, rfl⟩ := hvk
  cases x with | mk k n ats t ks =>
  simp only [Nd.attrs] at hat hlc hcm ⊢
  simp only [Nd.val, Nd.kind, Nd.name, Nd.text]
  have bx := Box.new w 41 [.int .i64 k, .string n, .slice a ats.length cap, .string t, .slice a2 n2 cap2]
  have hb := (Below.refl w.heap.size w).alloc (Nat.le_refl _) (.cells #[.int .i64 k, .string n, .slice a ats.length cap, .string t, .slice a2 n2 cap2] 41)
  have hat1 := hat.below hS hb
  have c2 := bx.cell (i := 2) rfl
  have hz : w.heap.size < (w.alloc (.cells #[.int .i64 k, .string n, .slice a ats.length cap, .string t, .slice a2 n2 cap2] 41)).heap.size := by simp
  go_enter Tryz.func49, Tryz.ntmps49
  change Box (w.alloc (.cells #[.int .i64 k, .string n, .slice a ats.length cap, .string t, .slice a2 n2 cap2] 41)) _ _ _ at bx
  change (w.alloc (.cells #[.int .i64 k, .string n, .slice a ats.length cap, .string t, .slice a2 n2 cap2] 41)).cell? _ = _ at c2
  go_wp2
  obtain ⟨W, hW⟩ : ∃ W, w.alloc (.cells #[.int .i64 k, .string n, .slice a ats.length cap, .string t, .slice a2 n2 cap2] 41) = W := ⟨_, rfl⟩
  rw [hW] at c2 hb hat1 hz ⊢
  clear hW bx hat
  go_loop [6] (fun u6 => ∃ i : Nat, i ≤ ats.length ∧ u6 = .int .i64 (i : Int) ∧ Hid (M3.valueOf name ats = M3.valueOf name (ats.drop i))) (fun u6 => ats.length - (intOf u6).toNat)
  case atStart => exact ⟨0, by omega, rfl, rfl⟩
  case round =>
    obtain ⟨i, hi, rfl, hv⟩ := hrel
    by_cases hlt : i < ats.length
    · obtain ⟨b, off, rfl, hSb, c0, c1⟩ := hat1.atA i hlt
      have hvd := M3.valueOf_drop name ats i hlt
      generalize ats[i].name = nm at *
      generalize ats[i].value = vl at *
      have hq : Hid (M3.eqB nm name = (nm.toList == name.toList)) := rfl
      cases he : (nm.toList == name.toList)
      · rw [hq.out, he] at hvd
        replace hvd := Lib.hid (hv.out.trans hvd)
        clear hv hq
        go_wp2
        go_round
        case rel => exact ⟨i + 1, by omega, by go_num, hvd.out⟩
        case measure => simp [intOf]; omega
      · rw [hq.out, he] at hvd
        replace hvd := Lib.hid (hv.out.trans hvd)
        clear hv hq
        go_wp2
        go_ret2
        exact ⟨by rw [hvd.out]; rfl, hb⟩
    · have hvd : Hid (M3.valueOf name ats = none) := by show _ = _; rw [hv.out, List.drop_of_length_le (by omega)]; rfl
      go_wp2
      go_ret2
      exact ⟨by rw [hvd.out]; rfl, hb⟩

end Go.Proofs.YteefodibpjgicaaGreat

/- A region that draws its order, by a state of my own: what holds whichever operations stand behind. -/
namespace Go.Proofs.YteefodibpjgicaaGreat
def updF (f : Nat → Bool) (i : Nat) : Nat → Bool := fun j => if j = i then true else f j
@[simp] theorem updF_same (f : Nat → Bool) (i : Nat) : updF f i i = true := by simp [updF]
theorem updF_ne (f : Nat → Bool) {i j : Nat} (h : j ≠ i) : updF f i j = f j := by simp [updF, h]
/-- Each operation waits for earlier ones alone. -/
def ordB (md : Region.Mode) (ops : Array Oper) : Bool :=
  (List.range ops.size).all fun i => match ops[i]? with | some o => o.after.all fun e => !Region.binds md e || decide (e.on < i) | none => true
theorem ordB_spec {md : Region.Mode} {ops : Array Oper} (h : ordB md ops = true) {i : Nat} {o : Oper} (hi : ops[i]? = some o) {e : Edge} (he : e ∈ o.after) (hb : Region.binds md e = true) : e.on < i := by
  have hlt := (Array.getElem?_eq_some_iff.1 hi).1
  unfold ordB at h
  rw [List.all_eq_true] at h
  have := h i (List.mem_range.2 hlt)
  rw [hi] at this
  simp only [Array.all_eq_true_iff_forall_mem, Bool.or_eq_true, Bool.not_eq_true', decide_eq_true_eq] at this
  rcases this e he with h | h
  · rw [hb] at h; cases h
  · exact h
def flags (listed : Array Bool) : Nat → Bool := fun i => listed.getD i true
theorem flags_set (listed : Array Bool) (i : Nat) : flags (listed.setIfInBounds i true) = updF (flags listed) i := by
  funext j
  unfold flags updF
  by_cases h : j = i
  · subst h
    rcases Nat.lt_or_ge j listed.size with h | h
    · simp [h]
    · simp
  · rw [if_neg h, getD_set_ne true (Ne.symm h)]
theorem flags_false {listed : Array Bool} {i : Nat} (h : listed.getD i false = true) : flags listed i = true := by
  unfold flags
  rcases Nat.lt_or_ge i listed.size with h' | h'
  · simp [h'] at h ⊢; exact h
  · simp [Array.getElem?_eq_none h'] at h
theorem false_flags {listed : Array Bool} {i : Nat} (hi : i < listed.size) (h : flags listed i = true) : listed.getD i false = true := by
  unfold flags at h
  simp [hi] at h ⊢; exact h

theorem all_of_ready_nil {md : Region.Mode} {ops : Array Oper} (hord : ordB md ops = true) {listed : Array Bool} (hs : listed.size = ops.size) (hr : Region.ready md ops listed = []) :
    ∀ i, i < ops.size → flags listed i = true := by
  intro i
  induction i using Nat.strongRecOn with
  | ind i ih =>
    intro hi
    cases hf : flags listed i with
    | true => rfl
    | false =>
      have : i ∈ Region.ready md ops listed := mem_ready.2 ⟨hf, ops[i], Array.getElem?_eq_getElem hi, fun e he hb => by
        have hlt := ordB_spec hord (Array.getElem?_eq_getElem hi) he hb
        exact false_flags (by rw [hs]; exact Nat.lt_trans hlt hi) (ih e.on hlt (Nat.lt_trans hlt hi))⟩
      rw [hr] at this; cases this

def leftOf (listed : Array Bool) : Nat := listed.toList.countP (fun b => !b)
theorem leftOf_set {listed : Array Bool} {i : Nat} (h : flags listed i = false) : leftOf (listed.setIfInBounds i true) + 1 = leftOf listed := by
  have hi : i < listed.size := by
    rcases Nat.lt_or_ge i listed.size with h' | h'
    · exact h'
    · simp [flags, Array.getElem?_eq_none h'] at h
  have hv : listed.toList[i]'(by simpa using hi) = false := by simpa [flags, hi] using h
  unfold leftOf
  rw [Array.toList_setIfInBounds]
  have h2 : i < listed.toList.length := by simpa using hi
  rw [List.countP_set h2, hv]
  have hp : 0 < listed.toList.countP (fun b => !b) := List.countP_pos_iff.2 ⟨false, by rw [← hv]; exact List.getElem_mem h2, rfl⟩
  simp only [Bool.not_true, Bool.not_false, if_true, Bool.false_eq_true, if_false]
  omega

theorem wpAnyIn_inv {F : Fence} {n : Nat} {P : Program} {md : Region.Mode} {ops : Array Oper} {Q : Exit → Act → World → Prop} (Inv : (Nat → Bool) → Act → World → Prop) (hord : ordB md ops = true)
    (hstep : ∀ i, i < ops.size → ∀ (f : Nat → Bool) (a : Act) (w : World), f i = false → (∀ j, Region.waitsFor md ops i j = true → f j = true) → Inv f a w → wpOpIn F n P ops Q i (Inv (updF f i)) a w)
    (hdone : ∀ (f : Nat → Bool) (a : Act) (w : World), (∀ i, i < ops.size → f i = true) → Inv f a w → Q .normal a w) :
    ∀ (fuel : Nat) (listed : Array Bool) (a : Act) (w : World), listed.size = ops.size → leftOf listed ≤ fuel → Inv (flags listed) a w → wpAnyIn F n P md ops Q fuel listed a w := by
  intro fuel
  induction fuel with
  | zero =>
    intro listed a w hs hl h
    have hr : Region.ready md ops listed = [] := by
      rw [List.eq_nil_iff_forall_not_mem]
      intro i hi
      have := leftOf_set (mem_ready.1 hi).1
      omega
    exact ⟨hr, hdone _ _ _ (all_of_ready_nil hord hs hr) h⟩
  | succ fuel ih =>
    intro listed a w hs hl h
    refine ⟨fun hr => hdone _ _ _ (all_of_ready_nil hord hs hr) h, fun i hi => ?_⟩
    obtain ⟨h0, o, ho, hall⟩ := mem_ready.1 hi
    have hlt := (Array.getElem?_eq_some_iff.1 ho).1
    refine wpOpIn_mono (fun a' w' h' => ih (listed.setIfInBounds i true) a' w' (by simpa using hs) (by have := leftOf_set h0; omega) ?_) (hstep i hlt (flags listed) a w h0 (fun j hj => ?_) h)
    · rw [flags_set]; exact h'
    · obtain ⟨oj, hoj, e, he, hb, rfl⟩ := Region.waitsFor_spec hj
      rw [ho] at hoj; cases hoj
      exact flags_false (hall e he hb)
theorem wpAny_inv {P : Program} {md : Region.Mode} {ops : Array Oper} {Q : Exit → Act → World → Prop} (Inv : (Nat → Bool) → Act → World → Prop) (hord : ordB md ops = true)
    (hstep : ∀ i, i < ops.size → ∀ (f : Nat → Bool) (a : Act) (w : World), f i = false → (∀ j, Region.waitsFor md ops i j = true → f j = true) → Inv f a w → wpOp P ops Q i (Inv (updF f i)) a w)
    (hdone : ∀ (f : Nat → Bool) (a : Act) (w : World), (∀ i, i < ops.size → f i = true) → Inv f a w → Q .normal a w) :
    ∀ (fuel : Nat) (listed : Array Bool) (a : Act) (w : World), listed.size = ops.size → leftOf listed ≤ fuel → Inv (flags listed) a w → wpAny P md ops Q fuel listed a w := by
  intro fuel
  induction fuel with
  | zero =>
    intro listed a w hs hl h
    have hr : Region.ready md ops listed = [] := by
      rw [List.eq_nil_iff_forall_not_mem]
      intro i hi
      have := leftOf_set (mem_ready.1 hi).1
      omega
    exact ⟨hr, hdone _ _ _ (all_of_ready_nil hord hs hr) h⟩
  | succ fuel ih =>
    intro listed a w hs hl h
    refine ⟨fun hr => hdone _ _ _ (all_of_ready_nil hord hs hr) h, fun i hi => ?_⟩
    obtain ⟨h0, o, ho, hall⟩ := mem_ready.1 hi
    have hlt := (Array.getElem?_eq_some_iff.1 ho).1
    refine wpOp_mono (fun a' w' h' => ih (listed.setIfInBounds i true) a' w' (by simpa using hs) (by have := leftOf_set h0; omega) ?_) (hstep i hlt (flags listed) a w h0 (fun j hj => ?_) h)
    · rw [flags_set]; exact h'
    · obtain ⟨oj, hoj, e, he, hb, rfl⟩ := Region.waitsFor_spec hj
      rw [ho] at hoj; cases hoj
      exact flags_false (hall e he hb)
theorem flags_none (k i : Nat) : flags (Array.replicate k false) i = decide (k ≤ i) := by
  unfold flags
  rcases Nat.lt_or_ge i k with h | h
  · simp [h]
  · simp [h]
theorem leftOf_none (k : Nat) : leftOf (Array.replicate k false) ≤ k := by
  unfold leftOf
  have := List.countP_le_length (p := fun b => !b) (l := (Array.replicate k false).toList)
  simpa using this
end Go.Proofs.YteefodibpjgicaaGreat

/- A region that draws its order, by what is known of each operation's slot: over XAnyInv. -/
namespace Go.Proofs.YteefodibpjgicaaGreat
/-- What operations yielded, by their numbers. -/
def updT (t : Nat → Value) (i : Nat) (v : Value) : Nat → Value := fun j => if j = i then v else t j
@[simp] theorem updT_same (t : Nat → Value) (i : Nat) (v : Value) : updT t i v i = v := by simp [updT]
theorem updT_ne (t : Nat → Value) {i j : Nat} (v : Value) (h : j ≠ i) : updT t i v j = t j := by simp [updT, h]
/-- Of those that stand behind, the value that is known. -/
def Kn (Vs : List (Option Value)) (f : Nat → Bool) (t : Nat → Value) : Prop := ∀ j V, f j = true → Vs[j]? = some (some V) → t j = V
theorem Kn.none (Vs : List (Option Value)) (n : Nat) (h : Vs.length = n) (t : Nat → Value) : Kn Vs (flags (Array.replicate n false)) t := by
  intro j V hf hV
  rw [flags_none] at hf
  have h1 : n ≤ j := by simpa using hf
  rw [List.getElem?_eq_none (by omega)] at hV
  cases hV
theorem Kn.upd {Vs : List (Option Value)} {f : Nat → Bool} {t : Nat → Value} {i : Nat} {v : Value} (h : Kn Vs f t) (hv : ∀ V, Vs[i]? = some (some V) → v = V) : Kn Vs (updF f i) (updT t i v) := by
  intro j V hf hV
  by_cases e : j = i
  · subst e; rw [updT_same]; exact hv V hV
  · rw [updT_ne _ _ e]; rw [updF_ne _ e] at hf; exact h j V hf hV
theorem Kn.at_ {Vs : List (Option Value)} {f : Nat → Bool} {t : Nat → Value} {i : Nat} {v : Value} (h : Kn Vs f t) (hv : Vs[i]? = some (some v)) : Kn Vs (updF f i) (updT t i v) := h.upd (fun V e => by rw [hv] at e; cases e; rfl)
theorem Kn.free {Vs : List (Option Value)} {f : Nat → Bool} {t : Nat → Value} {i : Nat} {v : Value} (h : Kn Vs f t) (hv : Vs[i]? = some .none) : Kn Vs (updF f i) (updT t i v) := h.upd (fun V e => by rw [hv] at e; cases e)

/-- The rule. I f t W: the world, whichever operations stand behind; A t: the frame. -/
theorem wp_region_known {id n : Nat} {P : Program} {ops : Array Oper} {Q : Exit → Act → World → Prop} {a : Act} {w : World} (Vs : List (Option Value)) (A : (Nat → Value) → Act) (I : (Nat → Bool) → (Nat → Value) → World → Prop) (t0 : Nat → Value)
    (hm : P.follows .mixedOrders = true) (hn : ops.size = n) (hl : Vs.length = n) (hord : ordB .any ops = true) (ha : a = A t0) (h0 : I (fun i => decide (n ≤ i)) t0 w.drew)
    (hstep : ∀ i, i < n → ∀ (f : Nat → Bool) (t : Nat → Value) (W : World), f i = false → (∀ j, Region.waitsFor .any ops i j = true → f j = true) → Kn Vs f t → I f t W →
      wpOp P ops Q i (fun a' W' => ∃ v, a' = A (updT t i v) ∧ Kn Vs (updF f i) (updT t i v) ∧ I (updF f i) (updT t i v) W') (A t) W)
    (hdone : ∀ (f : Nat → Bool) (t : Nat → Value) (W : World), (∀ i, i < n → f i = true) → Kn Vs f t → I f t W → Q .normal (A t) W) :
    (Code.region id ops true).wp P Q a w := by
  subst hn
  refine wp_region_any hm ?_
  change wpAny _ _ _ _ _ _ _ w.drew
  refine wpAny_inv (fun f ac W => ∃ t, ac = A t ∧ Kn Vs f t ∧ I f t W) hord ?_ ?_ _ _ _ _ (by simp) (leftOf_none _) ⟨t0, ha, Kn.none Vs _ hl t0, ?_⟩
  · rintro i hi f ac W hfi hwt ⟨t, rfl, hk, hI⟩
    refine wpOp_mono ?_ (hstep i hi f t W hfi hwt hk hI)
    rintro a' W' ⟨v, h1, h2, h3⟩
    exact ⟨_, h1, h2, h3⟩
  · rintro f ac W hall ⟨t, rfl, hk, hI⟩
    exact hdone f t W hall hk hI
  · rw [show flags (Array.replicate ops.size false) = fun i => decide (ops.size ≤ i) from funext (flags_none _)]
    exact h0
end Go.Proofs.YteefodibpjgicaaGreat
