/- Package dom: whether nodes may be. -/
import Derived.Test.YtjelmpajphajfaaDom6
namespace Go.Proofs.Ytjelmpajphajfaa
open Go.RowKit Go.Shelf

attribute [local go_sem] Oper.semAt_some

theorem firstE_prefix {a b : List (Nd × Int)} (h : a <+: b) (hn : M3.firstE a ≠ 0) : M3.firstE b = M3.firstE a := by
  obtain ⟨c, rfl⟩ := h
  rw [M3.firstE_append, if_pos hn]
theorem firstE_snoc (a : List (Nd × Int)) (p : Nd × Int) (h : M3.firstE a = 0) : M3.firstE (a ++ [p]) = M3.oneE p.1 (p.2 == 2) := by
  rw [M3.firstE_append, if_neg (by simpa using h), M3.firstE, M3.firstE]
  split
  · rfl
  · rename_i h; simp at h; exact h.symm

set_option maxRecDepth 100000 in
set_option maxHeartbeats 4000000 in
theorem domMay_in (n : Nat) (hn : 4 ≤ n) (S : Nat → Prop) (v : Value) (l : List Nd) (w : World) (hS : ∀ b, S b → b < w.heap.size) (hr : RepN S w v l) (hf : FitN l) :
    CallsIn Fence.wide n Try.prog 14 #[v] w fun e W' => e = .returned (.int .i64 (M3.mayE false l)) ∧ Below w.heap.size w W' := by
  obtain ⟨zs, hrow, hrep⟩ := hr
  obtain ⟨T, hT, hTm⟩ := tells_of (S := S) (w0 := w) l 0 zs hrep hf
  obtain ⟨a, cap, rfl⟩ := hrow.slice
  have hfirst : Hid (M3.firstE (T.map It.pair) = M3.mayE false l) := by
    show _ = _
    rw [hTm, M3.may_eq]; rfl
  clear hTm
  have hro : Fence.wide.round = none := rfl
  have h1 : 1 ≤ n := by omega
  refine callsIn_of_wp_marks Try.func14 rfl trivial ?_ hro
  simp only [Try.ntmps14, List.size_toArray, List.length_cons, List.length_nil, Nat.reduceAdd, Nat.reduceSub, Array.replicate_succ, Array.replicate_zero, List.push_toArray, List.append_toArray, List.nil_append, List.cons_append]
  gi_wp2_with (refine ⟨trivial, ?_⟩; gi_at_call 43; refine (domEach Fence.wide (n - 1) trivial hro _ _ _ _).mono ?_; rintro e w' ⟨rfl, rfl⟩)
  have bW := (Boxed.new w 24 (.int .i64 0)).alloc (.cells #[.slice a l.length cap] 22)
  have bL := Boxed.new (w.alloc (.cells #[.int .i64 0] 24)) 22 (.slice a l.length cap)
  have hB0 : Below w.heap.size w ((w.alloc (.cells #[.int .i64 0] 24)).alloc (.cells #[.slice a l.length cap] 22)) := ((Below.refl _ w).alloc (Nat.le_refl _) _).alloc (by simp) _
  have hsz : ((w.alloc (.cells #[.int .i64 0] 24)).alloc (.cells #[.slice a l.length cap] 22)).heap.size = w.heap.size + 2 := by simp
  simp only [World.size_alloc] at bL
  obtain ⟨W0, hW0⟩ : ∃ W0, (w.alloc (.cells #[.int .i64 0] 24)).alloc (.cells #[.slice a l.length cap] 22) = W0 := ⟨_, rfl⟩
  rw [hW0] at bW bL hB0 hsz ⊢
  clear hW0
  refine wpIn_rangeFunc_ownH hro h1 (gf := 68) (lb := #[.pointer (some ⟨w.heap.size + 1, 0, none⟩)]) rfl trivial (enters_of Try.func68 (by kernel_rfl) rfl)
    (eachStops Fence.wide rfl (n - 1) trivial trivial hro S w (w.heap.size + 1) w.heap.size (w.heap.size + 2) hS _ l zs T W0 bL.cell hrow hT hB0 (by omega) (by omega))
    (fun h k => h.trans k) (kp5_b (by omega)) (Below.refl _ _) (fun _ => rfl)
    (fun pre W => (Boxed W w.heap.size 24 (.int .i64 0) ∧ Below w.heap.size w W ∧ w.heap.size + 2 ≤ W.heap.size) ∧ M3.firstE (pre.map It.pair) = 0)
    (fun c pre W => (Boxed W w.heap.size 24 (.int .i64 (M3.firstE (pre.map It.pair))) ∧ Below w.heap.size w W) ∧ (c = .ret ∧ M3.firstE (pre.map It.pair) ≠ 0))
    (OwnFrom.and (OwnFrom.and (Own.from (boxed_own _ _ (fun _ => .int .i64 0)) _) (OwnFrom.and (ownFrom_below (Nat.le_refl _) (by omega)) (ownFrom_size _ _))) (ownFrom_pure _ _))
    (fun c => OwnFrom.and (OwnFrom.and (Own.from (boxed_own _ _ (fun (s : List (It S w)) => .int .i64 (M3.firstE (s.map It.pair)))) _) (ownFrom_below (Nat.le_refl _) (by omega))) (ownFrom_pure _ _))
    ⟨⟨bW, hB0, by omega⟩, rfl⟩
    (fun x a' W => ∃ Bx, w.heap.size + 2 ≤ Bx ∧ Box W Bx 28 (x.x.cells x.va x.vk) ∧ a' = { tmps := #[.slice a l.length cap, undef, .pointer (some ⟨w.heap.size, 0, none⟩), .pointer (some ⟨Bx, 0, none⟩), .int .i64 x.ah, undef, .slice a l.length cap, .func (.func 68) #[] #[.pointer (some ⟨w.heap.size + 1, 0, none⟩)], x.x.val x.va x.vk, .int .i64 x.ah, undef, undef, undef, undef, undef, undef], defers := [] })
    (fun x a' _ X Y row hs hg hr => by obtain ⟨Bx, h1, h2, h3⟩ := hs; exact ⟨Bx, h1, box_own h2 hg (fun r e => (hr r e).2), h3⟩)
    ?assign ?body ?done ?stop
  case assign =>
    rintro l0 pre x W K ⟨⟨bW1, hB1, hl1⟩, hp⟩ hK
    obtain ⟨⟨a1, c1, h1⟩, ⟨a2, c2, h2⟩⟩ := x.shapes
    have hx : It.args x = #[x.x.val x.va x.vk, .int .i64 x.ah] := rfl
    rw [hx]
    replace hK := Lib.hid hK
    replace hp := Lib.hid hp
    gi_wp2
    have hbox := Box.new W 28 (x.x.cells x.va x.vk)
    rw [h1, h2] at hbox
    exact hK.out _ _ (kf_of_below ((Below.refl _ W).alloc (Nat.le_refl _) _)) (Kp5.of_below ((Below.refl _ W).alloc (Nat.le_refl _) _) hB1.size) ⟨⟨bW1.alloc _, hB1.alloc hB1.size _, by simp; omega⟩, hp.out⟩ ⟨W.heap.size, hl1, by rw [h1, h2]; exact hbox, by rw [h1, h2]⟩
  case body =>
    rintro l0 pre x a' W hl ⟨r, hr⟩ ⟨⟨bW1, hB1, hl1⟩, hp⟩ ⟨Bx, hBx, bX, rfl⟩ hlt
    have hrep1 := x.rep.below hS hB1
    have hft := x.fit
    have hsn := firstE_snoc (pre.map It.pair) (It.pair x) hp
    have hmp : (pre ++ [x]).map It.pair = pre.map It.pair ++ [It.pair x] := by simp
    rw [← hmp] at hsn
    replace hsn := Lib.hid hsn
    obtain ⟨⟨a1, c1, h1⟩, ⟨a2, c2, h2⟩⟩ := x.shapes
    have hF := Lib.hid (fun W hS hr => domFault S x.x x.va x.vk x.ah W hS hr hft)
    rw [h1, h2] at bX hF hrep1
    replace h1 := Lib.hid h1
    replace h2 := Lib.hid h2
    have cX0 := bX.cell (i := 0) rfl
    have cX1 := bX.cell (i := 1) rfl
    have cX2 := bX.cell (i := 2) rfl
    have cX3 := bX.cell (i := 3) rfl
    have cX4 := bX.cell (i := 4) rfl
    have hz1 := hB1.size
    clear hp hmp
    gi_wp2_with (fail)
    refine ⟨trivial, (fun h => by cases h), ?_⟩
    refine (CallsIn.inRound l0 (callsIn_wide.2 (hF.out W (fun b h => by have := hS b h; omega) hrep1))).mono ?_
    rintro e w1 ⟨rfl, hb1⟩
    have bW2 : Boxed w1 w.heap.size 24 (.int .i64 0) := (hb1.block _ bW1.lt).trans bW1
    have cW := bW2.cell
    have fW := bW2.frozen
    have hB2 := hB1.trans (hb1.mono hz1)
    have hl2 : w.heap.size + 2 ≤ w1.heap.size := by have := hb1.size; omega
    have hkf := kf_of_below (B := W0.heap.size) hb1
    have hkp := Kp5.of_below (n₁ := w.heap.size + 2) hb1 hz1
    change Hid (M3.firstE ((pre ++ [x]).map It.pair) = M3.oneE x.x (x.ah == 2)) at hsn
    generalize M3.oneE x.x (x.ah == 2) = z at *
    by_cases hz : z = 0
    · subst hz
      gi_wp2_with (fail)
      exact ⟨hkf, hkp, ⟨bW2, hB2, hl2⟩, hsn.out⟩
    · have hzb : (z == 0) = false := by simpa using hz
      gi_wp2_with (fail)
      exact ⟨hkf.trans ((KeepsOthers.setCell _ _ _).from _), ⟨by rw [hsn.out]; exact bW2.set _, hB2.setCell (p := ⟨w.heap.size, 0, none⟩) (Nat.le_refl _) _⟩, rfl, by rw [hsn.out]; exact hz⟩
  case done =>
    rintro D ys W hD rfl ⟨⟨bW1, hB1, hl1⟩, hp⟩ hK
    have hp2 := Lib.hid (hfirst.out.symm.trans hp)
    have hcr := bW1.cell
    have hfr := bW1.frozen
    clear hp
    gi_wp2
    have hK' := (KeepsOthers.setCell W ⟨w.heap.size, 0, none⟩ (.int .i64 0)).same D _ hK rfl
    refine ⟨by simp, .inl ⟨_, _, rfl, run_takeDeferred hK', ?_⟩⟩
    have hc5 := cell_kept (World.cell?_setCell_same' W ⟨w.heap.size, 0, none⟩ (.int .i64 0) (by rw [hcr]; rfl)) (grownBy_putObj' _ D (.deferred none)) (fun r e => by cases e; exact ⟨_, hK', rfl⟩)
    refine ⟨.int .i64 0, ?_, by rw [hp2.out], (hB1.setCell (p := ⟨w.heap.size, 0, none⟩) (Nat.le_refl _) _).trans (belowK_b (w := w) (Nat.le_refl _) _ D _ _ (by omega) hK' rfl rfl)⟩
    simp [results, Try.f14, go_sem, hc5]
  case stop =>
    rintro D c pre W hD hpre ⟨⟨bW1, hB1⟩, rfl, hne⟩ hK
    have hfe : M3.firstE (pre.map It.pair) = M3.mayE false l := by
      rw [← hfirst.out]
      exact (firstE_prefix (hpre.map It.pair) hne).symm
    rw [hfe] at bW1
    have hcr := bW1.cell
    clear hfe hne
    gi_wp2
    refine ⟨by simp, .inl ⟨_, _, rfl, run_takeDeferred hK, ?_⟩⟩
    have hc5 := cell_kept hcr (grownBy_putObj' _ D (.deferred none)) (fun r e => by cases e; exact ⟨_, hK, rfl⟩)
    refine ⟨.int .i64 (M3.mayE false l), ?_, rfl, hB1.trans (belowK_b (w := w) (Nat.le_refl _) W D _ _ (by omega) hK rfl rfl)⟩
    simp [results, Try.f14, go_sem, hc5]

theorem domMay (S : Nat → Prop) (v : Value) (l : List Nd) (w : World) (hS : ∀ b, S b → b < w.heap.size) (hr : RepN S w v l) (hf : FitN l) :
    Calls Try.prog 14 #[v] w fun e W' => e = .returned (.int .i64 (M3.mayE false l)) ∧ Below w.heap.size w W' :=
  callsIn_wide.1 (domMay_in 4 (by omega) S v l w hS hr hf)
theorem domWeight (S : Nat → Prop) (v : Value) (l : List Nd) (w : World) (hS : ∀ b, S b → b < w.heap.size) (hr : RepN S w v l) (hf : FitN l) (hw : M3.weight l ≤ 4611686018427387904) :
    Calls Try.prog 23 #[v] w fun e W' => e = .returned (.int .i64 (M3.weight l : Int)) ∧ Below w.heap.size w W' :=
  callsIn_wide.1 (domWeight_in 3 (by omega) S v l w hS hr hf hw)
end Go.Proofs.Ytjelmpajphajfaa
