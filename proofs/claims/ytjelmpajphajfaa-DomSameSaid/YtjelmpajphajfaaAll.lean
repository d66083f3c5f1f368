/- Package dom: all nodes, each ahead of its kids. -/
import Derived.Test.YtjelmpajphajfaaDom6
import Derived.Test.YtjelmpajphajfaaClone3
import Derived.Test.YtjelmpajphajfaaAnyInv
namespace Go.Proofs.Ytjelmpajphajfaa
open Go.RowKit Go.Shelf

attribute [local go_sem] Oper.semAt_some

theorem own_isCells {w : World} {B : Nat} {e : TypeId} {k n : Nat} {v : Value} {xs : List Value} (h : w.ownsRow B e k v n xs) {b : Nat} (hb : b ∈ v.ownBlock.toList) : ∃ cs t, w.heap[b]? = some (.cells cs t (0, 0)) := by
  rcases h.2 with ⟨rfl, _⟩ | ⟨g, cap, cur, rfl, _, hg, _⟩
  · cases hb
  · simp [Value.ownBlock] at hb; subst hb; exact ⟨_, _, hg⟩
/-- One element put behind: in place, where there is room, or in a row that is new. -/
theorem append_sharp {w : World} {base : Nat} {t ty e : TypeId} {i : TypeInfo} {z : Value} {size bytes : Nat} (ht : Try.prog.underlying t = some (.slice e)) (hi : Try.prog.info? e = some i) (hz : i.zero = some z)
    (hsize : i.size = size) (hby : i.bytes = bytes) (hzs : z.cells.size = size) (hsz : 0 < size)
    (v : Value) (n : Nat) (xs : List Value) (hown : w.ownsRow base e size v n xs) (hv : n = 0 → v = .slice none 0 0)
    (a : Addr) (c : Nat) (news : List Value) (hl : news.length = 1 * size) (hnews : ∀ j u, news[j]? = some u → w.cell? (a.add j) = some u) (h1 : ∀ u ∈ news, u.oneCell' = true)
    (h63 : n + 1 ≤ 1000000000) (hbytes : (n + 1) * bytes ≤ 140737488355328) (hbase : base ≤ w.heap.size) :
    ∃ g cap cur w', (Builtin.append_ #[t, t] ty #[v, .slice (some a) 1 c]).run Try.prog w = .ok (.slice (some ⟨g, 0, none⟩) (n + 1) cap) w' ∧ w'.ownsRow base e size (.slice (some ⟨g, 0, none⟩) (n + 1) cap) (n + 1) (xs ++ news) ∧ w'.heap[g]? = some (.cells cur e (0, 0)) ∧
      ((1 < cap ∧ (∃ cur0, w.heap[g]? = some (.cells cur0 e (0, 0)) ∧ cur0.size = cap * size) ∧ v.ownBlock = some g ∧ w.grownBy w' (some g)) ∨ (w.heap.size ≤ g ∧ Below w.heap.size w w')) := by
  obtain ⟨v', w', hrun, hown', hg, hnil⟩ := run_append_own (P := Try.prog) w base t ty e i z size bytes ht hi hz hsize hby hzs hsz v n xs hown a 1 c news hl hnews h1 (by unfold maxLen; omega) hbytes hbase
  rcases hown'.2 with ⟨_, h⟩ | ⟨g, cap, cur, rfl, hbg, hcur, hn1, hm1, hcs, htk⟩
  · omega
  refine ⟨g, cap, cur, w', hrun, hown', hcur, ?_⟩
  rcases hown.2 with ⟨rfl, rfl⟩ | ⟨g0, cap0, cur0, rfl, hb0, hc0, hn0, hm0, hs0, ht0⟩
  · have hr := run_append_nil (P := Try.prog) (w := w) t ty e i z ht hi hz a 1 c news (by rw [hl, hsize]) hnews (by omega) (by omega) (by rw [hby]; omega)
    rw [hrun] at hr
    injection hr with h2 h3
    injection h2 with h4
    injection h4 with h4
    injection h4 with h4
    refine .inr ⟨by omega, ?_⟩
    exact ⟨hg.os, hg.tape, hg.output, hg.size, fun k hk => hg.block k hk (by simp [Value.ownBlock])⟩
  · have hn : 0 < n := by
      rcases Nat.eq_zero_or_pos n with h | h
      · have := hv h; cases this
      · exact h
    by_cases hroom : n + 1 ≤ cap0
    · obtain ⟨w2, hr, _, _⟩ := run_append_fits (P := Try.prog) w base t ty e i size ht hi hsize g0 n cap0 xs hown a 1 c news hl hnews h1 hroom
      rw [hrun] at hr
      injection hr with h2 h3
      injection h2 with h4 h5 h6
      injection h4 with h4
      injection h4 with h4
      subst h4
      subst h6
      exact .inl ⟨by omega, ⟨cur0, hc0, hs0⟩, rfl, hg⟩
    · have hr := run_append_grow (P := Try.prog) (w := w) t ty e i z ht hi hz ⟨g0, 0, none⟩ n cap0 xs (by rw [hsize]; exact hown.1) (fun j u hj => hown.cells rfl j u hj) a 1 c news (by rw [hl, hsize]) hnews (by omega) (by omega) (growslice_fits (by omega) (by rw [hby]; exact hbytes))
      rw [hrun] at hr
      injection hr with h2 h3
      injection h2 with h4
      injection h4 with h4
      injection h4 with h4
      subst h3
      refine .inr ⟨by omega, ?_⟩
      exact ((Below.refl _ w).drew).alloc (Nat.le_refl _) _

abbrev zeroN : List Value := [.int .i64 0, .string ⟨#[]⟩, .slice none 0 0, .string ⟨#[]⟩, .slice none 0 0]
theorem OwnC.isCells {w : World} (l : List Nd) : ∀ (xs : List Value) (F : List Nat), OwnC w xs l F → ∀ b ∈ F, ∃ cs t, w.heap[b]? = some (.cells cs t (0, 0)) := by
  induction l using Nd.ind with
  | h0 => intro xs F h; rw [OwnC] at h; rw [h.2]; intro b hb; cases hb
  | h1 k n ats t ks r ih1 ih2 =>
    intro xs F h b hb
    obtain ⟨va, vk, zs, ys, F1, F2, rfl, h2, h3, rfl, h5, h6⟩ := OwnC.cons_iff.1 h
    rcases List.mem_append.1 hb with hb | hb
    · rcases List.mem_append.1 hb with hb | hb
      · exact own_isCells h2 hb
      · rcases List.mem_append.1 hb with hb | hb
        · exact own_isCells h3 hb
        · exact ih1 _ _ h5 b hb
    · exact ih2 _ _ h6 b hb

/-- What a round of All leaves as it was. -/
structure KeptR (B : Nat) (w Wb W : World) : Prop where
  kp : Kp5 w.heap.size (w.heap.size + 2) Wb W
  kf : KeepsFrom B Wb W
  low : Below w.heap.size w W
theorem KeptR.next {B : Nat} {w Wb W W' : World} (h : KeptR B w Wb W) (hb : Below W.heap.size W W') (hz : w.heap.size ≤ W.heap.size) : KeptR B w Wb W' :=
  ⟨h.kp.trans (Kp5.of_below hb hz), h.kf.trans (kf_of_below hb), h.low.trans (hb.mono hz)⟩
theorem KeptR.one {B g : Nat} {w Wb W W' : World} (h : KeptR B w Wb W) (hg : W.grownBy W' (some g)) (hgz : w.heap.size ≤ g) (hz : w.heap.size ≤ W.heap.size)
    (five : Wb.heap.size ≤ g ∨ ∃ cur t, Wb.heap[g]? = some (.cells cur t (0, 0)) ∧ 5 < cur.size) (hc : ∃ cs t, W.heap[g]? = some (.cells cs t (0, 0))) : KeptR B w Wb W' := by
  refine ⟨⟨h.kp.low.grown hg hz (fun k e => by cases e; exact hgz), fun b cs t hb h5 h1 => ?_⟩, h.kf.trans ((KeepsOthers.of_grownBy hg (fun j o e ho => by cases e; obtain ⟨cs, t, hc⟩ := hc; rw [hc] at ho; cases ho; rfl)).from _), h.low.grown hg hz (fun k e => by cases e; exact hgz)⟩
  have h2 := h.kp.five b cs t hb h5 h1
  refine (hg.block b (Array.getElem?_eq_some_iff.1 h2).1 (fun e => ?_)).trans h2
  cases e
  rcases five with h3 | ⟨cur, t2, h3, h4⟩
  · have := (Array.getElem?_eq_some_iff.1 h1).1; omega
  · rw [h3] at h1; cases h1; omega
theorem put5_grown (W : World) (g i : Nat) (c0 c1 c2 c3 c4 : Value) : W.grownBy (put5 W g i c0 c1 c2 c3 c4) (some g) :=
  ⟨by simp [put5, World.setCell], by simp [put5, World.setCell], by simp [put5, World.setCell], by rw [put5_size]; exact Nat.le_refl _, fun k _ h => put5_far W g i c0 c1 c2 c3 c4 k (fun e => h (by rw [e]))⟩
/-- Ahead of the append. -/
structure AllA (B : Nat) (w Wb : World) (x : Nd) (tx : Value) (xs : List Nd) (v : Value) (zs : List Value) (F : List Nat) (f : Nat → Bool) (t9 t10 t11 t12 t13 : Value) (W : World) : Prop where
  row : W.ownsRow w.heap.size 28 5 v xs.length zs
  nds : OwnC W zs xs F
  box : Boxed W w.heap.size 22 v
  sp : ∀ b ∈ F, b < Wb.heap.size
  e0 : f 0 = true → t9 = v
  e1 : f 1 = true → t10 = tx
  e2 : f 2 = true → ∃ va vk zc G, t11 = x.val va vk ∧ W.ownsRow Wb.heap.size 44 2 va x.attrs.length (cellsA x.attrs) ∧ W.ownsRow Wb.heap.size 28 5 vk x.kids.length zc ∧ OwnC W zc x.kids G ∧ Span Wb.heap.size W.heap.size (va.ownBlock.toList ++ (vk.ownBlock.toList ++ G))
  e3 : f 3 = true → t12 = .int .i64 (xs.length : Int)
  e4 : f 4 = true → ∃ g, t13 = .slice (some ⟨g, 0, none⟩) 1 1 ∧ Box W g 28 zeroN
  keep : KeptR B w Wb W
  bel : Below Wb.heap.size Wb W
theorem AllA.next {B : Nat} {w Wb : World} {x : Nd} {tx : Value} {xs : List Nd} {v : Value} {zs : List Value} {F : List Nat} {f : Nat → Bool} {t9 t10 t11 t12 t13 : Value} {W W' : World} (h : AllA B w Wb x tx xs v zs F f t9 t10 t11 t12 t13 W) (hb : Below W.heap.size W W') (hz : w.heap.size ≤ W.heap.size) :
    AllA B w Wb x tx xs v zs F f t9 t10 t11 t12 t13 W' := by
  have hz2 := h.keep.kf.size
  have hz3 := hb.size
  refine ⟨own_keep h.row (fun g hg => hb.block g (h.row.lt g hg).2), OwnC.keep _ _ _ (fun b hb' => hb.block b (by have := h.sp b hb'; omega)) h.nds, (hb.block _ h.box.lt).trans h.box, h.sp, h.e0, h.e1, fun hf => ?_, h.e3, fun hf => ?_, h.keep.next hb hz, h.bel.trans (hb.mono hz2)⟩
  · obtain ⟨va, vk, zc, G, h1, h2, h3, h4, h5⟩ := h.e2 hf
    exact ⟨va, vk, zc, G, h1, own_keep h2 (fun g hg => hb.block g (h2.lt g hg).2), own_keep h3 (fun g hg => hb.block g (h3.lt g hg).2), OwnC.keep _ _ _ (fun b hb' => hb.block b (h5.2 b (by simp [hb'])).2) h4, h5.mono (Nat.le_refl _) hz3⟩
  · obtain ⟨g, h1, h2⟩ := h.e4 hf
    exact ⟨g, h1, h2.below hb h2.lt⟩
/-- Behind it. -/
structure AllB (B : Nat) (w Wb : World) (x : Nd) (xs : List Nd) (zs : List Value) (F : List Nat) (g cap : Nat) (va vk : Value) (zc : List Value) (G : List Nat) (f : Nat → Bool) (t15 : Value) (W : World) : Prop where
  row : W.ownsRow w.heap.size 28 5 (.slice (some ⟨g, 0, none⟩) (xs.length + 1) cap) (xs.length + 1) (zs ++ (if f 7 = true then x.cells va vk else zeroN))
  nds : OwnC W zs xs F
  oa : W.ownsRow Wb.heap.size 44 2 va x.attrs.length (cellsA x.attrs)
  ok : W.ownsRow Wb.heap.size 28 5 vk x.kids.length zc
  kids : OwnC W zc x.kids G
  box : ∃ u, Boxed W w.heap.size 22 u ∧ (f 8 = true → u = .slice (some ⟨g, 0, none⟩) (xs.length + 1) cap)
  e6 : f 6 = true → t15 = .pointer (some ⟨g, xs.length * 5, none⟩)
  five : Wb.heap.size ≤ g ∨ ∃ cur t, Wb.heap[g]? = some (.cells cur t (0, 0)) ∧ 5 < cur.size
  span : Span (w.heap.size + 2) W.heap.size (g :: (F ++ (va.ownBlock.toList ++ (vk.ownBlock.toList ++ G))))
  keep : KeptR B w Wb W
theorem len5 {w : World} {xs : List Nd} {zs : List Value} {F : List Nat} (h : OwnC w zs xs F) : zs.length = xs.length * 5 := OwnC.len _ _ _ h

/-- The state ahead of a round. -/
def AllI (w : World) (xs : List Nd) (W : World) : Prop := ∃ v zr F, Boxed W w.heap.size 22 v ∧ W.ownsRow w.heap.size 28 5 v xs.length zr ∧ OwnC W zr xs F ∧ Span (w.heap.size + 2) W.heap.size (v.ownBlock.toList ++ F) ∧ (xs.length = 0 → v = .slice none 0 0) ∧ Below w.heap.size w W ∧ w.heap.size + 2 ≤ W.heap.size
theorem allI_keep {w : World} {xs : List Nd} {W W' : World} (h : AllI w xs W) (hb : ∀ b : Nat, (∃ cs t, W.heap[b]? = some (Obj.cells cs t (0, 0))) → W'.heap[b]? = W.heap[b]?) (hl : Below w.heap.size w W') (hz : W.heap.size ≤ W'.heap.size) : AllI w xs W' := by
  obtain ⟨v, zr, F, h1, h2, h3, h4, h5, h6, h7⟩ := h
  exact ⟨v, zr, F, (hb _ ⟨_, _, h1⟩).trans h1, own_keep h2 (fun g hg => hb g (own_isCells h2 (by simp [hg]))), OwnC.keep _ _ _ (fun b hb' => hb b (OwnC.isCells _ _ _ h3 b hb')) h3, h4.mono (Nat.le_refl _) hz, h5, hl, by omega⟩
theorem allI_next {w : World} {xs : List Nd} {W W' : World} (h : AllI w xs W) (hb : Below W.heap.size W W') : AllI w xs W' := by
  have hz : w.heap.size ≤ W.heap.size := by obtain ⟨_, _, _, _, _, _, _, _, h6, _⟩ := h; exact h6.size
  have hl : Below w.heap.size w W := by obtain ⟨_, _, _, _, _, _, _, _, h6, _⟩ := h; exact h6
  exact allI_keep h (fun b ⟨cs, t, hc⟩ => hb.block b (Array.getElem?_eq_some_iff.1 hc).1) (hl.trans (hb.mono hz)) hb.size
theorem allI_own {w : World} {B : Nat} {S : Nat → Prop} (hB : w.heap.size ≤ B) : OwnFrom B (fun (pre : List (It S w)) W => AllI w (pre.map It.x) W) := by
  intro s W W' row hs hg hr
  have hl : Below w.heap.size w W := by obtain ⟨_, _, _, _, _, _, _, _, h6, _⟩ := hs; exact h6
  exact allI_keep hs (fun b ⟨cs, t, hc⟩ => hg.block b (Array.getElem?_eq_some_iff.1 hc).1 (fun e => by obtain ⟨_, o, ho, hcl⟩ := hr b e.symm; rw [hc] at ho; cases ho; cases hcl)) (hl.grown hg hl.size (fun k e => Nat.le_trans hB (hr k e).1)) hg.size
set_option maxRecDepth 100000 in
set_option maxHeartbeats 8000000 in
theorem domAll_in (n : Nat) (hn : 3 ≤ n) (S : Nat → Prop) (v : Value) (l : List Nd) (w : World) (hS : ∀ b, S b → b < w.heap.size) (hr : RepN S w v l) (hf : FitN l) (hw : Few6 l) :
    CallsIn Fence.wide n Try.prog 20 #[v] w (FreshPost (M3.all l) w) := by
  have hmx : Try.prog.follows .mixedOrders = true := by kernel_rfl
  obtain ⟨zs, hrow, hrep⟩ := hr
  obtain ⟨T, hT, hTm⟩ := tells_of (S := S) (w0 := w) l 0 zs hrep hf
  obtain ⟨a, cap, rfl⟩ := hrow.slice
  have hTx := Lib.hid (Tells.nds hTm)
  have hTl : T.length ≤ 1000000 := by
    have h1 : T.length = (M3.all l).length := by rw [← hTx.out, List.length_map]
    rw [h1]
    exact Nat.le_trans (M3.all_len l) hw
  clear hTm
  have hro : Fence.wide.round = none := rfl
  have h1 : 1 ≤ n := by omega
  refine callsIn_of_wp_marks Try.func20 rfl trivial ?_ hro
  simp only [Try.ntmps20, List.size_toArray, List.length_cons, List.length_nil, Nat.reduceAdd, Nat.reduceSub, Array.replicate_succ, Array.replicate_zero, List.push_toArray, List.append_toArray, List.nil_append, List.cons_append]
  gi_wp2_with (refine ⟨trivial, ?_⟩; gi_at_call 43; refine (domEach Fence.wide (n - 1) trivial hro _ _ _ _).mono ?_; rintro e w' ⟨rfl, rfl⟩)
  have bW := (Boxed.new w 22 (.slice none 0 0)).alloc (.cells #[.slice a l.length cap] 22)
  have bL := Boxed.new (w.alloc (.cells #[.slice none 0 0] 22)) 22 (.slice a l.length cap)
  have hB0 : Below w.heap.size w ((w.alloc (.cells #[.slice none 0 0] 22)).alloc (.cells #[.slice a l.length cap] 22)) := ((Below.refl _ w).alloc (Nat.le_refl _) _).alloc (by simp) _
  have hsz : ((w.alloc (.cells #[.slice none 0 0] 22)).alloc (.cells #[.slice a l.length cap] 22)).heap.size = w.heap.size + 2 := by simp
  simp only [World.size_alloc] at bL
  obtain ⟨W0, hW0⟩ : ∃ W0, (w.alloc (.cells #[.slice none 0 0] 22)).alloc (.cells #[.slice a l.length cap] 22) = W0 := ⟨_, rfl⟩
  rw [hW0] at bW bL hB0 hsz ⊢
  clear hW0
  refine wpIn_rangeFunc_ownH hro h1 (gf := 68) (lb := #[.pointer (some ⟨w.heap.size + 1, 0, none⟩)]) rfl trivial (enters_of Try.func68 (by kernel_rfl) rfl)
    (eachStops Fence.wide rfl (n - 1) trivial trivial hro S w (w.heap.size + 1) w.heap.size (w.heap.size + 2) hS _ l zs T W0 bL.cell hrow hT hB0 (by omega) (by omega))
    (fun h k => h.trans k) (kp5_b (by omega)) (Below.refl _ _) (fun _ => rfl)
    (fun pre W => AllI w (pre.map It.x) W)
    (fun _ _ _ => False)
    (allI_own (by omega))
    (fun _ _ _ _ _ hs _ _ => hs)
    ⟨.slice none 0 0, [], [], bW, World.ownsRow_nil _ _ _ _, OwnC.nil _, Span.nil _ _, fun _ => rfl, hB0, by omega⟩
    (fun x a' W => ∃ Bx, w.heap.size + 2 ≤ Bx ∧ Box W Bx 28 (x.x.cells x.va x.vk) ∧ a' = { tmps := #[.slice a l.length cap, undef, .slice none 0 0, .pointer (some ⟨w.heap.size, 0, none⟩), .pointer (some ⟨Bx, 0, none⟩), .slice a l.length cap, .func (.func 68) #[] #[.pointer (some ⟨w.heap.size + 1, 0, none⟩)], x.x.val x.va x.vk, .int .i64 x.ah, undef, undef, undef, undef, undef, undef, undef, undef], defers := [] })
    (fun x a' _ X Y row hs hg hr => by obtain ⟨Bx, h1, h2, h3⟩ := hs; exact ⟨Bx, h1, box_own h2 hg (fun r e => (hr r e).2), h3⟩)
    ?assign ?body ?done ?stop
  case assign =>
    rintro l0 pre x W K hI hK
    obtain ⟨⟨a1, c1, h1⟩, ⟨a2, c2, h2⟩⟩ := x.shapes
    have hx : It.args x = #[x.x.val x.va x.vk, .int .i64 x.ah] := rfl
    rw [hx]
    replace hK := Lib.hid hK
    gi_wp2
    have hbox := Box.new W 28 (x.x.cells x.va x.vk)
    rw [h1, h2] at hbox
    have hI2 := allI_next hI ((Below.refl _ W).alloc (Nat.le_refl _) (.cells (x.x.cells x.va x.vk).toArray 28))
    obtain ⟨_, _, _, _, _, _, _, _, hlow, hl1⟩ := hI
    rw [h1, h2] at hI2
    exact hK.out _ _ (kf_of_below ((Below.refl _ W).alloc (Nat.le_refl _) _)) (Kp5.of_below ((Below.refl _ W).alloc (Nat.le_refl _) _) hlow.size) hI2 ⟨W.heap.size, hl1, by rw [h1, h2]; exact hbox, by rw [h1, h2]⟩
  case body =>
    rintro l0 pre x a' Wb hl ⟨r, hr⟩ ⟨v, zr, F, bW1, hown, hoc, hsp, hnil, hlow, hl1⟩ ⟨Bx, hBx, bX, rfl⟩ hlt
    rcases x with ⟨x, ah, va0, vk0, hrx, hfx⟩
    obtain ⟨a1, c1, rfl⟩ := hrx.at_.slice
    obtain ⟨a2, c2, rfl⟩ := hrx.kids.slice
    have hxw : 1 + x.attrs.length + M3.weight x.kids ≤ 1000000 := hfx.2.2.2
    dsimp only at *
    generalize hxs : pre.map It.x = xs at *
    have hxl : xs.length = pre.length := by rw [← hxs, List.length_map]
    replace hxl := Lib.hid hxl
    replace hxs := Lib.hid hxs
    obtain ⟨av, capv, rfl⟩ := own_slice hown
    have hFb : ∀ b ∈ F, b < Wb.heap.size := fun b hb => (hsp.2 b (by simp [hb])).2
    have hA0 : AllA W0.heap.size w Wb x (x.val (.slice a1 x.attrs.length c1) (.slice a2 x.kids.length c2)) xs (.slice av xs.length capv) zr F (fun i => decide (9 ≤ i)) undef undef undef undef undef Wb := ⟨hown, hoc, bW1, hFb, (by simp), (by simp), (by simp), (by simp), (by simp), ⟨Kp5.refl _, KeepsFrom.refl _ _, hlow⟩, Below.refl _ _⟩
    have hA1 := hA0.next ((Below.refl _ Wb).drew) hlow.size
    gi_wp2_with (fail)
    refine wpIn_region_any hmx ?_
    change wpAnyIn _ _ _ _ _ _ _ _ _ (World.drew _)
    refine wpAnyIn_inv (fun f ac W => (f 5 = false ∧ f 6 = false ∧ f 7 = false ∧ f 8 = false ∧ ∃ t9 t10 t11 t12 t13, AllA W0.heap.size w Wb x (x.val (.slice a1 x.attrs.length c1) (.slice a2 x.kids.length c2)) xs (.slice av xs.length capv) zr F f t9 t10 t11 t12 t13 W ∧
        ac = { tmps := #[.slice a l.length cap, undef, .slice none 0 0, .pointer (some ⟨w.heap.size, 0, none⟩), .pointer (some ⟨Bx, 0, none⟩), .slice a l.length cap, .func (.func 68) #[] #[.pointer (some ⟨w.heap.size + 1, 0, none⟩)], x.val (.slice a1 x.attrs.length c1) (.slice a2 x.kids.length c2), .int .i64 ah, t9, t10, t11, t12, t13, undef, undef, undef], defers := [] }) ∨
      ((f 0 = true ∧ f 1 = true ∧ f 2 = true ∧ f 3 = true ∧ f 4 = true ∧ f 5 = true) ∧ ∃ g cap' va vk zc G t9 t10 t13 t15, AllB W0.heap.size w Wb x xs zr F g cap' va vk zc G f t15 W ∧
        ac = { tmps := #[.slice a l.length cap, undef, .slice none 0 0, .pointer (some ⟨w.heap.size, 0, none⟩), .pointer (some ⟨Bx, 0, none⟩), .slice a l.length cap, .func (.func 68) #[] #[.pointer (some ⟨w.heap.size + 1, 0, none⟩)], x.val (.slice a1 x.attrs.length c1) (.slice a2 x.kids.length c2), .int .i64 ah, t9, t10, x.val va vk, .int .i64 (xs.length : Int), t13, .slice (some ⟨g, 0, none⟩) (xs.length + 1) cap', t15, undef], defers := [] })) (by kernel_rfl) ?step ?fin _ _ _ _ (by simp) (leftOf_none _) (.inl ⟨rfl, rfl, rfl, rfl, undef, undef, undef, undef, undef, ?_, rfl⟩)
    case fin =>
      intro f ac W hall hInv
      rcases hInv with ⟨g5, _⟩ | ⟨_, g, cap', va, vk, zc, G, t9, t10, t13, t15, hB, rfl⟩
      · rw [hall 5 (by simp)] at g5; cases g5
      · have hrow5 := hB.row
        rw [hall 7 (by simp), if_pos rfl] at hrow5
        obtain ⟨u, hu1, hu2⟩ := hB.box
        rw [hu2 (hall 8 (by simp))] at hu1
        have hnd := (List.nodup_cons.1 hB.span.1)
        have hgs := hB.span.2 g (by simp)
        refine ⟨hB.keep.kf, hB.keep.kp, ?_⟩
        show AllI w ((pre ++ [_]).map It.x) W
        rw [List.map_append, hxs.out]
        refine ⟨_, zr ++ x.cells va vk, F ++ (va.ownBlock.toList ++ (vk.ownBlock.toList ++ G)), hu1, ?_, ?_, ?_, ?_, hB.keep.low, by omega⟩
        · rw [List.length_append]; exact hrow5
        · refine OwnC.append ?_ _ _ _ hB.nds
          exact OwnC.cons_iff.2 ⟨va, vk, zc, [], G, [], by simp, own_base hB.oa (fun g _ => Nat.zero_le _), own_base hB.ok (fun g _ => Nat.zero_le _), by simp, hB.kids, OwnC.nil _⟩
        · exact hB.span
        · intro h; simp at h
    case step =>
      intro i hi f ac W hfi hwt hInv
      simp only [List.size_toArray, List.length_cons, List.length_nil, Nat.reduceAdd] at hi
      have hsz0 : w.heap.size ≤ W.heap.size := by
        rcases hInv with ⟨_, _, _, _, _, _, _, _, _, hA, _⟩ | ⟨_, _, _, _, _, _, _, _, _, _, _, hB, _⟩
        · exact hA.keep.low.size
        · exact hB.keep.low.size
      rcases hInv with ⟨g5, g6, g7, g8, t9, t10, t11, t12, t13, hA, rfl⟩ | ⟨⟨g0, g1, g2, g3, g4, g5⟩, g, cap', va, vk, zc, G, t9, t10, t13, t15, hB, rfl⟩
      · obtain rfl | rfl | rfl | rfl | rfl | rfl | h6 : i = 0 ∨ i = 1 ∨ i = 2 ∨ i = 3 ∨ i = 4 ∨ i = 5 ∨ 6 ≤ i := by omega
        · have cW := hA.box.cell
          refine wpOpIn_step rfl (fun K hK => ?_)
          replace hA := Lib.hid hA
          clear hwt bW1 hown hoc hA1 hA0 hFb
          go_simp
          refine hK _ _ (.inl ⟨by simpa [updF] using g5, by simpa [updF] using g6, by simpa [updF] using g7, by simpa [updF] using g8, _, t10, t11, t12, t13, ⟨hA.out.row, hA.out.nds, hA.out.box, hA.out.sp, fun _ => rfl, fun h => hA.out.e1 (by simpa [updF] using h), fun h => hA.out.e2 (by simpa [updF] using h), fun h => hA.out.e3 (by simpa [updF] using h), fun h => hA.out.e4 (by simpa [updF] using h), hA.out.keep, hA.out.bel⟩, rfl⟩)
        · have bX2 := hA.keep.kp.box bX hBx
          have c0 := bX2.cell (i := 0) rfl
          have c1' := bX2.cell (i := 1) rfl
          have c2' := bX2.cell (i := 2) rfl
          have c3 := bX2.cell (i := 3) rfl
          have c4 := bX2.cell (i := 4) rfl
          refine wpOpIn_step rfl (fun K hK => ?_)
          replace hA := Lib.hid hA
          clear hwt bW1 hown hoc hA1 hA0 hFb bX bX2
          go_simp
          refine hK _ _ (.inl ⟨by simpa [updF] using g5, by simpa [updF] using g6, by simpa [updF] using g7, by simpa [updF] using g8, t9, x.val (.slice a1 x.attrs.length c1) (.slice a2 x.kids.length c2), t11, t12, t13, ⟨hA.out.row, hA.out.nds, hA.out.box, hA.out.sp, fun h => hA.out.e0 (by simpa [updF] using h), fun _ => rfl, fun h => hA.out.e2 (by simpa [updF] using h), fun h => hA.out.e3 (by simpa [updF] using h), fun h => hA.out.e4 (by simpa [updF] using h), hA.out.keep, hA.out.bel⟩, rfl⟩)
        · obtain rfl := hA.e1 (hwt 1 (by kernel_rfl))
          have hrepW := RepV.below (w := w) (B := w.heap.size) hrx hS hA.keep.low
          have hcl := Lib.hid (domClone1 S x _ _ W (fun b h => by have := hS b h; omega) hrepW (by omega) (fun W2 h3 h4 => domClone (M3.weight x.kids + 1) S _ x.kids W2 (by omega) (by show M3.weight x.kids ≤ 1000000; omega) h3 h4))
          refine wpOpIn_step rfl (fun K hK => ?_)
          replace hA := Lib.hid hA
          clear hwt bW1 hown hoc hA1 hA0 hFb hrepW
          go_simp
          refine ⟨trivial, (fun h => by cases h), ?_⟩
          refine (CallsIn.inRound l0 (callsIn_wide.2 hcl.out)).mono ?_
          rintro e w2 ⟨va2, vk2, zc, G, rfl, oa, ok, hoc2, hsp2, hb2⟩
          have hN := hA.out.next hb2 hsz0
          have hz2 := hA.out.keep.kf.size
          refine hK _ _ (.inl ⟨by simpa [updF] using g5, by simpa [updF] using g6, by simpa [updF] using g7, by simpa [updF] using g8, t9, _, x.val va2 vk2, t12, t13, { hN with e0 := fun h => hN.e0 (by simpa [updF] using h), e1 := fun h => hN.e1 (by simpa [updF] using h), e3 := fun h => hN.e3 (by simpa [updF] using h), e4 := fun h => hN.e4 (by simpa [updF] using h), e2 := fun _ => ⟨va2, vk2, zc, G, rfl, own_base oa (fun g hg => Nat.le_trans hz2 (oa.lt g hg).1), own_base ok (fun g hg => Nat.le_trans hz2 (ok.lt g hg).1), hoc2, hsp2.mono hz2 (Nat.le_refl _)⟩ }, rfl⟩)
        · obtain rfl := hA.e0 (hwt 0 (by kernel_rfl))
          refine wpOpIn_step rfl (fun K hK => ?_)
          replace hA := Lib.hid hA
          clear hwt bW1 hown hoc hA1 hA0 hFb
          go_simp
          have hN := hA.out
          refine hK _ _ (.inl ⟨by simpa [updF] using g5, by simpa [updF] using g6, by simpa [updF] using g7, by simpa [updF] using g8, _, t10, t11, _, t13, { hN with e0 := fun h => hN.e0 (by simpa [updF] using h), e1 := fun h => hN.e1 (by simpa [updF] using h), e2 := fun h => hN.e2 (by simpa [updF] using h), e4 := fun h => hN.e4 (by simpa [updF] using h), e3 := fun _ => rfl }, rfl⟩)
        · refine wpOpIn_step rfl (fun K hK => ?_)
          replace hA := Lib.hid hA
          clear hwt bW1 hown hoc hA1 hA0 hFb
          go_simp
          have hN := hA.out.next ((Below.refl _ W).alloc (Nat.le_refl _) (.cells zeroN.toArray 28)) hsz0
          refine hK _ _ (.inl ⟨by simpa [updF] using g5, by simpa [updF] using g6, by simpa [updF] using g7, by simpa [updF] using g8, t9, t10, t11, t12, _, { hN with e0 := fun h => hN.e0 (by simpa [updF] using h), e1 := fun h => hN.e1 (by simpa [updF] using h), e2 := fun h => hN.e2 (by simpa [updF] using h), e3 := fun h => hN.e3 (by simpa [updF] using h), e4 := fun _ => ⟨W.heap.size, rfl, Box.new W 28 zeroN⟩ }, rfl⟩)
        · obtain rfl := hA.e0 (hwt 0 (by kernel_rfl))
          have f0 := hwt 0 (by kernel_rfl)
          have f1 := hwt 1 (by kernel_rfl)
          have f2 := hwt 2 (by kernel_rfl)
          have f3 := hwt 3 (by kernel_rfl)
          have f4 := hwt 4 (by kernel_rfl)
          obtain ⟨va, vk, zc, G, rfl, oa, ok, hkd, hspG⟩ := hA.e2 f2
          obtain rfl := hA.e3 f3
          obtain ⟨gz, rfl, hbz⟩ := hA.e4 f4
          obtain ⟨i0, hi0, hz00, hz01, hz02⟩ := info_parts infoN
          obtain ⟨g, cap', cur, W', hrun, hrow', hcur, hcase⟩ := append_sharp (w := W) (t := 22) (ty := 22) Try.underlying22 hi0 hz00 hz01 hz02 rfl (by omega) (.slice av xs.length capv) xs.length zr hA.row hnil ⟨gz, 0, none⟩ 1 zeroN rfl (fun j u hj => by rw [add_plain', Nat.zero_add]; exact hbz.cell hj) (by simp [zeroN, Value.oneCell']) (by have := hxl.out; omega) (by have := hxl.out; omega) hsz0
          refine wpOpIn_step rfl (fun K hK => ?_)
          refine Eq.mpr (if_pos ?hc) ?_
          case hc => rfl
          unfold Oper.wpIn
          refine ⟨by simp [Oper.about, resolve, Target.leads, Sem.run_pure], ?_⟩
          rw [Oper.semAt_plain _ _ _ (by intro c hc; cases hc)]
          simp [execOp, resolve, invoke, builtin, hrun, Result.andThen, Act.eval]
          have hz2 := hA.keep.kf.size
          have key : (∀ b, b < W.heap.size → b ≠ g → W'.heap[b]? = W.heap[b]?) ∧ Span (w.heap.size + 2) W'.heap.size (g :: (F ++ (va.ownBlock.toList ++ (vk.ownBlock.toList ++ G)))) ∧ (Wb.heap.size ≤ g ∨ ∃ cur t, Wb.heap[g]? = some (.cells cur t (0, 0)) ∧ 5 < cur.size) ∧ KeptR W0.heap.size w Wb W' := by
            have hgW := (Array.getElem?_eq_some_iff.1 hcur).1
            rcases hcase with ⟨k1, ⟨cur0, k2, k3⟩, k4, hgr⟩ | ⟨k1, hbl⟩
            · rw [k4] at hsp
              have hgs := hsp.2 g (by simp)
              have k5 : Wb.heap[g]? = some (.cells cur0 28 (0, 0)) := (hA.bel.block g hgs.2).symm.trans k2
              have k6 : Wb.heap.size ≤ g ∨ ∃ cur t, Wb.heap[g]? = some (.cells cur t (0, 0)) ∧ 5 < cur.size := .inr ⟨cur0, _, k5, by omega⟩
              refine ⟨fun b hb hne => hgr.block b hb (fun e => hne (by cases e; rfl)), ?_, k6, hA.keep.one hgr (by omega) hsz0 k6 ⟨_, _, k2⟩⟩
              have := Span.append hsp hspG (by omega) hz2
              exact this.mono (Nat.le_refl _) hgr.size
            · have k2 : Span (w.heap.size + 2) W.heap.size (F ++ (va.ownBlock.toList ++ (vk.ownBlock.toList ++ G))) := by
                refine Span.append (mid := Wb.heap.size) ⟨?_, fun b hb => hsp.2 b (by simp [hb])⟩ hspG hl1 hz2
                exact (List.nodup_append.1 hsp.1).2.1
              refine ⟨fun b hb _ => hbl.block b hb, ⟨List.nodup_cons.2 ⟨fun hm => by have := (k2.2 g hm).2; omega, k2.1⟩, fun b hb => ?_⟩, .inl (by omega), hA.keep.next hbl hsz0⟩
              rcases List.mem_cons.1 hb with rfl | hb
              · omega
              · have := k2.2 b hb; omega
          obtain ⟨hoth, hsp5, h5, hkr⟩ := key
          have hnd := (List.nodup_cons.1 hsp5.1).1
          have hG : ∀ b ∈ va.ownBlock.toList ++ (vk.ownBlock.toList ++ G), W'.heap[b]? = W.heap[b]? := fun b hb => hoth b (hspG.2 b hb).2 (fun e => hnd (by rw [← e]; exact List.mem_append_right _ hb))
          refine hK _ _ (.inr ⟨by simp [updF, f0, f1, f2, f3, f4], g, cap', va, vk, zc, G, _, t10, _, undef, ⟨?_, OwnC.keep _ _ _ (fun b hb => hoth b (by have := hA.sp b hb; omega) (fun e => hnd (by rw [← e]; exact List.mem_append_left _ hb))) hA.nds, own_keep oa (fun g hg => hG g (by simp [hg])), own_keep ok (fun g hg => hG g (by simp [hg])), OwnC.keep _ _ _ (fun b hb => hG b (by simp [hb])) hkd, ⟨_, (hoth _ hA.box.lt (fun e => by have := hsp5.2 g (by simp); omega)).trans hA.box, fun h => ?_⟩, fun h => ?_, h5, hsp5, hkr⟩, rfl⟩)
          · rw [updF_ne f (by decide), g7, if_neg (by simp)]; exact hrow'
          · rw [updF_ne f (by decide), g8] at h; cases h
          · rw [updF_ne f (by decide), g6] at h; cases h
        · exfalso
          have : f 5 = true := hwt 5 (by obtain rfl | rfl | rfl : i = 6 ∨ i = 7 ∨ i = 8 := by omega
                                         all_goals kernel_rfl)
          rw [g5] at this; cases this
      · obtain rfl | rfl | rfl | rfl | rfl | rfl | rfl | rfl | rfl : i = 0 ∨ i = 1 ∨ i = 2 ∨ i = 3 ∨ i = 4 ∨ i = 5 ∨ i = 6 ∨ i = 7 ∨ i = 8 := by omega
        · rw [g0] at hfi; cases hfi
        · rw [g1] at hfi; cases hfi
        · rw [g2] at hfi; cases hfi
        · rw [g3] at hfi; cases hfi
        · rw [g4] at hfi; cases hfi
        · rw [g5] at hfi; cases hfi
        · have hlt6 : (xs.length : Int) < xs.length + 1 := by omega
          refine wpOpIn_step rfl (fun K hK => ?_)
          replace hB := Lib.hid hB
          clear hwt bW1 hown hoc hA1 hA0 hFb
          go_simp
          refine hK _ _ (.inr ⟨by simp [updF, g0, g1, g2, g3, g4, g5], g, cap', va, vk, zc, G, t9, t10, t13, _, ⟨?_, hB.out.nds, hB.out.oa, hB.out.ok, hB.out.kids, ?_, fun _ => rfl, hB.out.five, hB.out.span, hB.out.keep⟩, rfl⟩)
          · rw [updF_ne f (by decide)]; exact hB.out.row
          · rw [updF_ne f (by decide)]; exact hB.out.box
        · obtain rfl := hB.e6 (hwt 6 (by kernel_rfl))
          obtain ⟨a3, c3, rfl⟩ := own_slice hB.oa
          obtain ⟨a4, c4, rfl⟩ := own_slice hB.ok
          have hrow := hB.row
          rw [hfi, if_neg (by simp)] at hrow
          have hzl := len5 hB.nds
          have hzz : ∀ j u, zeroN[j]? = some u → (zr ++ zeroN)[xs.length * 5 + j]? = some u := by
            intro j u hu
            rw [List.getElem?_append_right (by omega), show xs.length * 5 + j - zr.length = j by omega]
            exact hu
          obtain ⟨y0, q0⟩ := own_cell hrow _ _ (hzz 0 _ rfl)
          obtain ⟨y1, q1⟩ := own_cell hrow _ _ (hzz 1 _ rfl)
          obtain ⟨y2, q2⟩ := own_cell hrow _ _ (hzz 2 _ rfl)
          obtain ⟨y3, q3⟩ := own_cell hrow _ _ (hzz 3 _ rfl)
          obtain ⟨y4, q4⟩ := own_cell hrow _ _ (hzz 4 _ rfl)
          simp only [Nat.add_zero] at y0 q0
          refine wpOpIn_step rfl (fun K hK => ?_)
          replace hB := Lib.hid hB
          replace hrow := Lib.hid hrow
          replace hzz := Lib.hid hzz
          clear hwt bW1 hown hoc hA1 hA0 hFb
          go_simp
          have hB := hB.out
          have hnd := (List.nodup_cons.1 hB.span.1).1
          have hgs := hB.span.2 g (by simp)
          have hoth : ∀ b ∈ F ++ ((Value.slice a3 x.attrs.length c3).ownBlock.toList ++ ((Value.slice a4 x.kids.length c4).ownBlock.toList ++ G)), (put5 W g xs.length (.int .i64 x.kind) (.string x.name) (.slice a3 x.attrs.length c3) (.string x.text) (.slice a4 x.kids.length c4)).heap[b]? = W.heap[b]? := fun b hb => put5_far _ _ _ _ _ _ _ _ b (fun e => hnd (by rw [← e]; exact hb))
          have hp := put5_own (Z := []) hrow.out hzl (.int .i64 x.kind) (.string x.name) (.slice a3 x.attrs.length c3) (.string x.text) (.slice a4 x.kids.length c4)
          rw [List.append_nil] at hp
          refine hK _ (put5 W g xs.length (.int .i64 x.kind) (.string x.name) (.slice a3 x.attrs.length c3) (.string x.text) (.slice a4 x.kids.length c4)) (.inr ⟨by simp [updF, g0, g1, g2, g3, g4, g5], g, cap', .slice a3 x.attrs.length c3, .slice a4 x.kids.length c4, zc, G, t9, t10, t13, _, ⟨?_, OwnC.keep _ _ _ (fun b hb => hoth b (List.mem_append_left _ hb)) hB.nds, own_keep hB.oa (fun g hg => hoth g (by simp [hg])), own_keep hB.ok (fun g hg => hoth g (by simp [hg])), OwnC.keep _ _ _ (fun b hb => hoth b (by simp [hb])) hB.kids, ?_, fun _ => rfl, hB.five, ?_, hB.keep.one (put5_grown _ _ _ _ _ _ _ _) (by omega) hsz0 hB.five (own_isCells hrow.out (by simp [Value.ownBlock]))⟩, rfl⟩)
          · rw [updF_same, if_pos rfl]; exact hp
          · obtain ⟨u, hu1, hu2⟩ := hB.box
            exact ⟨u, (put5_far _ _ _ _ _ _ _ _ _ (by omega)).trans hu1, fun h => hu2 (by rwa [updF_ne f (by decide)] at h)⟩
          · rw [put5_size]; exact hB.span
        · obtain ⟨u, hbu, _⟩ := hB.box
          have cW := hbu.cell
          have fW := hbu.frozen
          refine wpOpIn_step rfl (fun K hK => ?_)
          replace hB := Lib.hid hB
          clear hwt bW1 hown hoc hA1 hA0 hFb
          go_simp
          have hB := hB.out
          have hoth : ∀ b ∈ g :: (F ++ (va.ownBlock.toList ++ (vk.ownBlock.toList ++ G))), (W.setCell ⟨w.heap.size, 0, none⟩ (.slice (some ⟨g, 0, none⟩) (xs.length + 1) cap')).heap[b]? = W.heap[b]? := fun b hb => Below.heap_setCell _ _ _ _ (by have := hB.span.2 b hb; simp; omega)
          refine hK _ (W.setCell ⟨w.heap.size, 0, none⟩ (.slice (some ⟨g, 0, none⟩) (xs.length + 1) cap')) (.inr ⟨by simp [updF, g0, g1, g2, g3, g4, g5], g, cap', va, vk, zc, G, t9, t10, t13, t15, ⟨?_, OwnC.keep _ _ _ (fun b hb => hoth b (by simp [hb])) hB.nds, own_keep hB.oa (fun g hg => hoth g (by simp [hg])), own_keep hB.ok (fun g hg => hoth g (by simp [hg])), OwnC.keep _ _ _ (fun b hb => hoth b (by simp [hb])) hB.kids, ⟨_, hbu.set _, fun _ => rfl⟩, fun h => hB.e6 (by rwa [updF_ne f (by decide)] at h), hB.five, ?_, ⟨hB.keep.kp.trans (kp5_set W _ (Nat.le_refl _) (by omega)), hB.keep.kf.trans ((KeepsOthers.setCell _ _ _).from _), hB.keep.low.setCell (p := ⟨w.heap.size, 0, none⟩) (Nat.le_refl _) _⟩⟩, rfl⟩)
          · rw [updF_ne f (by decide)]; exact own_keep hB.row (fun b hb => hoth b (by simp [Value.ownBlock] at hb; simp [hb]))
          · have : (W.setCell ⟨w.heap.size, 0, none⟩ (.slice (some ⟨g, 0, none⟩) (xs.length + 1) cap')).heap.size = W.heap.size := by simp [World.setCell]
            rw [this]; exact hB.span
    · show AllA W0.heap.size w Wb x (x.val (.slice a1 x.attrs.length c1) (.slice a2 x.kids.length c2)) xs (.slice av xs.length capv) zr F (flags (Array.replicate 9 false)) undef undef undef undef undef _
      rw [show flags (Array.replicate 9 false) = fun i => decide (9 ≤ i) from funext (flags_none 9)]
      exact hA1
  case done =>
    rintro D ys W hD rfl ⟨v, zr, F, bW1, hown, hoc, hsp, hnil, hlow, hl1⟩ hK
    obtain ⟨av, capv, rfl⟩ := own_slice hown
    have cW := bW1.cell
    have hlen : (ys.map It.x).length = (M3.all l).length := by rw [hTx.out]
    have hpo : ∀ b : Nat, (∃ cs t, W.heap[b]? = some (Obj.cells cs t (0, 0))) → (W.putObj D (.deferred none)).heap[b]? = W.heap[b]? := fun b ⟨cs, t, hc⟩ => (grownBy_putObj' W D (.deferred none)).block b (Array.getElem?_eq_some_iff.1 hc).1 (fun e => by cases e; rw [hc] at hK; cases hK)
    have hsz9 := (grownBy_putObj' W D (.deferred none)).size
    rw [hTx.out] at hown hoc
    replace hown := Lib.hid hown
    replace hoc := Lib.hid hoc
    replace hpo := Lib.hid hpo
    replace hlen := Lib.hid hlen
    clear hTx
    have hlen2 : ys.length = (M3.all l).length := by rw [← hlen.out, List.length_map]
    have hownP : (W.putObj D (.deferred none)).ownsRow w.heap.size 28 5 (.slice av ys.length capv) (M3.all l).length zr := by
      rw [hlen2]
      exact own_keep hown.out (w' := W.putObj D (.deferred none)) (fun g hg => hpo.out g (own_isCells hown.out (by rw [hg]; simp)))
    have hocP := OwnC.keep (w' := W.putObj D (.deferred none)) _ _ _ (fun b hb => hpo.out b (OwnC.isCells _ _ _ hoc.out b hb)) hoc.out
    have hspP : Span w.heap.size (W.putObj D (.deferred none)).heap.size ((Value.slice av ys.length capv).ownBlock.toList ++ F) := by
      rw [hlen2, ← hlen.out]
      exact hsp.mono (by omega) hsz9
    clear hlen2
    gi_wp2
    refine ⟨by simp, .inl ⟨_, _, rfl, run_takeDeferred hK, ?_⟩⟩
    refine ⟨.slice av ys.length capv, by simp [results, Try.f20, go_sem], _, rfl, ⟨zr, F, hownP, hocP, hspP⟩, hlow.trans (belowK_b (w := w) (Nat.le_refl _) W D _ _ (by omega) hK rfl rfl)⟩
  case stop =>
    rintro D c pre W _ _ h _
    exact h.elim

theorem domAll (S : Nat → Prop) (v : Value) (l : List Nd) (w : World) (hS : ∀ b, S b → b < w.heap.size) (hr : RepN S w v l) (hf : FitN l) (hw : Few6 l) :
    Calls Try.prog 20 #[v] w (FreshPost (M3.all l) w) :=
  callsIn_wide.1 (domAll_in 3 (by omega) S v l w hS hr hf hw)
end Go.Proofs.Ytjelmpajphajfaa
