/- Package dom: what nodes weigh, whether they may be. -/
import Derived.Test.YtjelmpajphajfaaTell
namespace Go.Proofs.Ytjelmpajphajfaa
open Go.RowKit Go.Shelf

attribute [local go_sem] Oper.semAt_some

def sumZ (L : List Nd) : Int := L.foldl (fun s x => wrap64 (s + wrap64 (1 + (x.attrs.length : Int)))) 0
theorem sumZ_snoc (L : List Nd) (x : Nd) : sumZ (L ++ [x]) = wrap64 (sumZ L + wrap64 (1 + (x.attrs.length : Int))) := by simp [sumZ]
theorem sumZ_from (L : List Nd) : ∀ (s : Int), 0 ≤ s → s + ((L.map fun x => 1 + x.attrs.length).sum : Nat) ≤ 4611686018427387904 → L.foldl (fun s x => wrap64 (s + wrap64 (1 + (x.attrs.length : Int)))) s = s + ((L.map fun x => 1 + x.attrs.length).sum : Nat) := by
  induction L with
  | nil => intro s _ _; simp
  | cons x r ih =>
    intro s h0 h
    rw [List.map_cons, List.sum_cons] at h ⊢
    rw [List.foldl_cons, IntWalk.wrap64_in (1 + (x.attrs.length : Int)) (by omega), IntWalk.wrap64_in _ (by omega), ih _ (by omega) (by omega)]
    omega
theorem sumZ_eq (L : List Nd) (h : (L.map fun x => 1 + x.attrs.length).sum ≤ 4611686018427387904) : sumZ L = ((L.map fun x => 1 + x.attrs.length).sum : Nat) := by
  have := sumZ_from L 0 (Int.le_refl _) (by omega)
  rw [Int.zero_add] at this
  exact this
theorem kf_of_below {B : Nat} {W W' : World} (h : Below W.heap.size W W') : KeepsFrom B W W' := ⟨h.size, fun k _ _ hk _ => (h.block k (Array.getElem?_eq_some_iff.1 hk).1).trans hk⟩
theorem Tells.nds {S : Nat → Prop} {w0 : World} {l : List Nd} {T : List (It S w0)} (h : T.map It.pair = M3.seqN 0 l) : T.map It.x = M3.all l := by
  rw [← M3.all_eq 0 l, ← h, List.map_map]; rfl

theorem ownFrom_size {β : Type} (B k : Nat) : OwnFrom B (fun (_ : β) W => k ≤ W.heap.size) := fun _ _ _ _ hs hg _ => Nat.le_trans hs hg.size
theorem box_own {X Y : World} {row : Option Nat} {g : Nat} {t : TypeId} {cs : List Value} (h : Box X g t cs) (hg : X.grownBy Y row) (hr : ∀ r, row = some r → ∃ o : Obj, X.heap[r]? = some o ∧ o.isCells = false) : Box Y g t cs :=
  h.keep (hg.block g h.lt (fun e => by obtain ⟨o, ho, hc⟩ := hr g e.symm; rw [show X.heap[g]? = _ from h] at ho; cases ho; cases hc))
theorem kp5_set {n₀ n₁ g : Nat} (W : World) (u : Value) (h0 : n₀ ≤ g) (h1 : g < n₁) : Kp5 n₀ n₁ W (W.setCell ⟨g, 0, none⟩ u) :=
  ⟨(Below.refl _ _).setCell (p := ⟨g, 0, none⟩) h0 _, fun b _ _ hb _ h => (Below.heap_setCell W ⟨g, 0, none⟩ u b (fun e => by simp at e; omega)).trans h⟩
theorem It.shapes {S : Nat → Prop} {w0 : World} (x : It S w0) : (∃ a c, x.va = .slice a x.x.attrs.length c) ∧ ∃ a c, x.vk = .slice a x.x.kids.length c := ⟨x.rep.at_.slice, x.rep.kids.slice⟩

set_option maxRecDepth 100000 in
set_option maxHeartbeats 4000000 in
theorem domWeight_in (n : Nat) (hn : 3 ≤ n) (S : Nat → Prop) (v : Value) (l : List Nd) (w : World) (hS : ∀ b, S b → b < w.heap.size) (hr : RepN S w v l) (hf : FitN l) (hw : M3.weight l ≤ 4611686018427387904) :
    CallsIn Fence.wide n Try.prog 23 #[v] w fun e W' => e = .returned (.int .i64 (M3.weight l : Int)) ∧ Below w.heap.size w W' := by
  obtain ⟨zs, hrow, hrep⟩ := hr
  obtain ⟨T, hT, hTm⟩ := tells_of (S := S) (w0 := w) l 0 zs hrep hf
  obtain ⟨a, cap, rfl⟩ := hrow.slice
  have hTx := Tells.nds hTm
  have hsum : Hid (sumZ (T.map It.x) = (M3.weight l : Int)) := by
    show _ = _
    rw [hTx, sumZ_eq, ← M3.weight_all]
    rw [← M3.weight_all]; exact hw
  clear hTm hTx
  have hro : Fence.wide.round = none := rfl
  have h1 : 1 ≤ n := by omega
  refine callsIn_of_wp_marks Try.func23 rfl trivial ?_ hro
  simp only [Try.ntmps23, List.size_toArray, List.length_cons, List.length_nil, Nat.reduceAdd, Nat.reduceSub, Array.replicate_succ, Array.replicate_zero, List.push_toArray, List.append_toArray, List.nil_append, List.cons_append]
  gi_wp2_with (refine ⟨trivial, ?_⟩; gi_at_call 43; refine (domEach Fence.wide (n - 1) trivial hro _ _ _ _).mono ?_; rintro e w' ⟨rfl, rfl⟩)
  have bW := (Boxed.new w 3 (.int .i64 0)).alloc (.cells #[.slice a l.length cap] 22)
  have bL := Boxed.new (w.alloc (.cells #[.int .i64 0] 3)) 22 (.slice a l.length cap)
  have hB0 : Below w.heap.size w ((w.alloc (.cells #[.int .i64 0] 3)).alloc (.cells #[.slice a l.length cap] 22)) := ((Below.refl _ w).alloc (Nat.le_refl _) _).alloc (by simp) _
  have hsz : ((w.alloc (.cells #[.int .i64 0] 3)).alloc (.cells #[.slice a l.length cap] 22)).heap.size = w.heap.size + 2 := by simp
  simp only [World.size_alloc] at bL
  obtain ⟨W0, hW0⟩ : ∃ W0, (w.alloc (.cells #[.int .i64 0] 3)).alloc (.cells #[.slice a l.length cap] 22) = W0 := ⟨_, rfl⟩
  rw [hW0] at bW bL hB0 hsz ⊢
  clear hW0
  refine wpIn_rangeFunc_ownH hro h1 (gf := 68) (lb := #[.pointer (some ⟨w.heap.size + 1, 0, none⟩)]) rfl trivial (enters_of Try.func68 (by kernel_rfl) rfl)
    (eachStops Fence.wide rfl (n - 1) trivial trivial hro S w (w.heap.size + 1) w.heap.size (w.heap.size + 2) hS _ l zs T W0 bL.cell hrow hT hB0 (by omega) (by omega))
    (fun h k => h.trans k) (kp5_b (by omega)) (Below.refl _ _) (fun _ => rfl)
    (fun pre W => Boxed W w.heap.size 3 (.int .i64 (sumZ (pre.map It.x))) ∧ Below w.heap.size w W ∧ w.heap.size + 2 ≤ W.heap.size)
    (fun _ _ _ => False)
    (OwnFrom.and (Own.from (boxed_own _ _ _) _) (OwnFrom.and (ownFrom_below (Nat.le_refl _) (by omega)) (ownFrom_size _ _)))
    (fun _ _ _ _ _ hs _ _ => hs)
    ⟨bW, hB0, by omega⟩
    (fun x a' W => ∃ Bx, w.heap.size + 2 ≤ Bx ∧ Box W Bx 28 (x.x.cells x.va x.vk) ∧ a' = { tmps := #[.slice a l.length cap, undef, .int .i64 0, .pointer (some ⟨w.heap.size, 0, none⟩), .pointer (some ⟨Bx, 0, none⟩), .slice a l.length cap, .func (.func 68) #[] #[.pointer (some ⟨w.heap.size + 1, 0, none⟩)], x.x.val x.va x.vk, .int .i64 x.ah, undef, undef, undef, undef, undef, undef, undef], defers := [] })
    (fun x a' _ X Y row hs hg hr => by obtain ⟨Bx, h1, h2, h3⟩ := hs; exact ⟨Bx, h1, box_own h2 hg (fun r e => (hr r e).2), h3⟩)
    ?assign ?body ?done ?stop
  case assign =>
    rintro l0 pre x W K ⟨bW1, hB1, hl1⟩ hK
    obtain ⟨⟨a1, c1, h1⟩, ⟨a2, c2, h2⟩⟩ := x.shapes
    have hx : It.args x = #[x.x.val x.va x.vk, .int .i64 x.ah] := rfl
    rw [hx]
    replace hK := Lib.hid hK
    gi_wp2
    have hbox := Box.new W 28 (x.x.cells x.va x.vk)
    rw [h1, h2] at hbox
    exact hK.out _ _ (kf_of_below ((Below.refl _ W).alloc (Nat.le_refl _) _)) (Kp5.of_below ((Below.refl _ W).alloc (Nat.le_refl _) _) hB1.size) ⟨bW1.alloc _, hB1.alloc hB1.size _, by simp; omega⟩ ⟨W.heap.size, hl1, by rw [h1, h2]; exact hbox, by rw [h1, h2]⟩
  case body =>
    rintro l0 pre x a' W hl ⟨r, hr⟩ ⟨bW1, hB1, hl1⟩ ⟨Bx, hBx, bX, rfl⟩ hlt
    obtain ⟨⟨a1, c1, h1⟩, ⟨a2, c2, h2⟩⟩ := x.shapes
    rw [h1, h2] at bX
    have cW := bW1.cell
    have fW := bW1.frozen
    have cX := bX.cell (i := 2) rfl
    gi_wp2
    exact ⟨(KeepsOthers.setCell _ _ _).from _, kp5_set W _ (Nat.le_refl _) (by omega), by rw [List.map_append, List.map_cons, List.map_nil, sumZ_snoc]; exact bW1.set _, hB1.setCell (p := ⟨w.heap.size, 0, none⟩) (Nat.le_refl _) _, by simpa [World.setCell] using hl1⟩
  case done =>
    rintro D ys W hD rfl ⟨bW1, hB1, hl1⟩ hK
    have cW := bW1.cell
    rw [hsum.out] at cW
    gi_wp2
    refine ⟨by simp, .inl ⟨_, _, rfl, run_takeDeferred hK, ?_⟩⟩
    exact ⟨_, results_tmp rfl _ _ _, rfl, hB1.trans (belowK_b (w := w) (Nat.le_refl _) W D _ _ (by omega) hK rfl rfl)⟩
  case stop =>
    rintro D c pre W _ _ h _
    exact h.elim
end Go.Proofs.Ytjelmpajphajfaa
