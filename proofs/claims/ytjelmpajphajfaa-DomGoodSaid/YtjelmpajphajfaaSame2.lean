/- Package dom: the same, walked on. -/
import Derived.Test.YtjelmpajphajfaaSame
namespace Go.Proofs.Ytjelmpajphajfaa
open Go.RowKit

def SamePost (r : Bool) (w : World) (e : Ending) (w' : World) : Prop := e = .returned (.bool r) ∧ Below w.heap.size w w'

set_option maxHeartbeats 4000000 in
set_option maxRecDepth 100000 in
theorem domAlike (S : Nat → Prop) (x y : Nd) (va vk vb vl : Value) (w : World) (hS : ∀ b, S b → b < w.heap.size) (hx : RepV S w x va vk) (hy : RepV S w y vb vl)
    (ih : ∀ W, Below w.heap.size w W → Calls Try.prog 21 #[vk, vl] W (SamePost (M3.sameN x.kids y.kids) W)) :
    Calls Try.prog 51 #[x.val va vk, y.val vb vl] w (SamePost (oneSame x y) w) := by
  obtain ⟨a1, c1, rfl⟩ := hx.at_.slice
  obtain ⟨a2, c2, rfl⟩ := hx.kids.slice
  obtain ⟨a3, c3, rfl⟩ := hy.at_.slice
  obtain ⟨a4, c4, rfl⟩ := hy.kids.slice
  have hsame : oneSame x y = (x.kind == y.kind && (x.name.toList == y.name.toList) && (x.text.toList == y.text.toList) && M3.sameA x.attrs y.attrs && M3.sameN x.kids y.kids) := rfl
  have hB : Below w.heap.size w ((w.alloc (.cells (x.cells (.slice a1 x.attrs.length c1) (.slice a2 x.kids.length c2)).toArray 28)).alloc (.cells (y.cells (.slice a3 y.attrs.length c3) (.slice a4 y.kids.length c4)).toArray 28)) := ((Below.refl _ w).alloc (Nat.le_refl _) _).alloc (by simp) _
  have hq := Lib.hid (fun W (hW : Below w.heap.size w W) => slEqual S x.attrs y.attrs _ _ W (fun b h => by have := hS b h; have := hW.size; omega) (hx.at_.below hS hW) (hy.at_.below hS hW))
  have b0 := (Box.new w 28 (x.cells (.slice a1 x.attrs.length c1) (.slice a2 x.kids.length c2))).alloc (.cells (y.cells (.slice a3 y.attrs.length c3) (.slice a4 y.kids.length c4)).toArray 28)
  have b1 := Box.new (w.alloc (.cells (x.cells (.slice a1 x.attrs.length c1) (.slice a2 x.kids.length c2)).toArray 28)) 28 (y.cells (.slice a3 y.attrs.length c3) (.slice a4 y.kids.length c4))
  simp only [World.size_alloc] at b1
  replace ih := Lib.hid ih
  obtain ⟨r1, hr1⟩ : ∃ r1, M3.sameA x.attrs y.attrs = r1 := ⟨_, rfl⟩
  obtain ⟨r2, hr2⟩ : ∃ r2, M3.sameN x.kids y.kids = r2 := ⟨_, rfl⟩
  rw [hr1] at hsame hq
  rw [hr2] at hsame ih
  clear hr1 hr2
  clear hx hy hS
  cases x with | mk k1 n1 ats1 t1 ks1 =>
  cases y with | mk k2 n2 ats2 t2 ks2 =>
  simp only [Nd.kind, Nd.name, Nd.text, Nd.attrs, Nd.kids, Nd.cells, Nd.val] at *
  cases he1 : (k1 == k2)
  · have hs : Hid (oneSame (.mk k1 n1 ats1 t1 ks1) (.mk k2 n2 ats2 t2 ks2) = false) := by show _ = _; rw [hsame, he1]; rfl
    have he : decide (k1 = k2) = false := by simpa using he1
    clear hsame
    go_enter Try.func51, Try.ntmps51
    go_wp2_with (fail)
    go_ret
    exact ⟨by rw [hs.out]; rfl, hB⟩
  · have he : k1 = k2 := by simpa using he1
    subst he
    cases he2 : (n1.toList == n2.toList)
    · have hs : Hid (oneSame (.mk k1 n1 ats1 t1 ks1) (.mk k1 n2 ats2 t2 ks2) = false) := by show _ = _; rw [hsame, he1, he2]; rfl
      clear hsame
      go_enter Try.func51, Try.ntmps51
      go_wp2_with (fail)
      go_ret
      exact ⟨by rw [hs.out]; rfl, hB⟩
    · cases he3 : (t1.toList == t2.toList)
      · have hs : Hid (oneSame (.mk k1 n1 ats1 t1 ks1) (.mk k1 n2 ats2 t2 ks2) = false) := by show _ = _; rw [hsame, he1, he2, he3]; rfl
        clear hsame
        go_enter Try.func51, Try.ntmps51
        go_wp2_with (fail)
        go_ret
        exact ⟨by rw [hs.out]; rfl, hB⟩
      · rw [he1, he2, he3] at hsame
        replace hsame := Lib.hid hsame
        go_enter Try.func51, Try.ntmps51
        go_wp2_with (fail)
        refine (hq.out _ hB).mono ?_
        rintro e w1 ⟨rfl, hb1⟩
        have e0 := b0.below hb1 b0.lt
        have e1 := b1.below hb1 b1.lt
        have d0 := e0.cell (i := 4) rfl
        have d1 := e1.cell (i := 4) rfl
        have hB1 := hB.trans (hb1.mono (by simp; omega))
        clear b0 b1 e0 e1 hq
        cases r1
        · go_wp2_with (fail)
          go_ret
          exact ⟨by rw [hsame.out]; rfl, hB1⟩
        · go_wp2_with (fail)
          refine (ih.out _ hB1).mono ?_
          rintro e w2 ⟨rfl, hb2⟩
          have hz1 := hB1.size
          go_wp2_with (fail)
          go_ret
          exact ⟨by rw [hsame.out]; cases r2 <;> rfl, hB1.trans (hb2.mono hz1)⟩
end Go.Proofs.Ytjelmpajphajfaa
