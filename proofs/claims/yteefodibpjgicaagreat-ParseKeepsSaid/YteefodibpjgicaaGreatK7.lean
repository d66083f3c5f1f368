/- Texts joined: Bld2, Bld3, Bld4, Ref06, Ref07, Sub, Ref07b, Bld5, Bld6, RegC. -/
import Derived.Test.YteefodibpjgicaaGreatK1
import Derived.Test.YteefodibpjgicaaGreatK2
import Derived.Test.YteefodibpjgicaaGreatK3
import Derived.Test.YteefodibpjgicaaGreatK4
import Derived.Test.YteefodibpjgicaaGreatK5
import Derived.Test.YteefodibpjgicaaGreatK6
/- Package build: told, settle, add. -/
namespace Go.Proofs.YteefodibpjgicaaGreat
open Go.RowKit Go.Maps
theorem boxS5 {W : World} {g : Nat} {t : TypeId} {z0 z1 z2 z3 z4 : Value} (h : Box W g t [z0, z1, z2, z3, z4]) (c0 c1 c2 c3 c4 : Value) :
    Box (((((W.setCell ⟨g, 0, none⟩ c0).setCell ⟨g, 1, none⟩ c1).setCell ⟨g, 2, none⟩ c2).setCell ⟨g, 3, none⟩ c3).setCell ⟨g, 4, none⟩ c4) g t [c0, c1, c2, c3, c4] := by
  have := ((((h.set 0 c0).set 1 c1).set 2 c2).set 3 c3).set 4 c4
  simpa only [List.set_cons_succ, List.set_cons_zero] using this
/-- Five stores into a block of its own, behind whatever has turned. -/
structure Far (g : Nat) (W W' : World) : Prop where
  os : W'.os = W.os
  tape : W'.tape = W.tape
  output : W'.output = W.output
  size : W'.heap.size = W.heap.size
  block : ∀ b, b ≠ g → W'.heap[b]? = W.heap[b]?
theorem farS5 (W : World) (g : Nat) (c0 c1 c2 c3 c4 : Value) : Far g W (((((W.setCell ⟨g, 0, none⟩ c0).setCell ⟨g, 1, none⟩ c1).setCell ⟨g, 2, none⟩ c2).setCell ⟨g, 3, none⟩ c3).setCell ⟨g, 4, none⟩ c4) :=
  have hb : Below 0 W (((((W.setCell ⟨g, 0, none⟩ c0).setCell ⟨g, 1, none⟩ c1).setCell ⟨g, 2, none⟩ c2).setCell ⟨g, 3, none⟩ c3).setCell ⟨g, 4, none⟩ c4) := (((((Below.refl 0 W).setCell (p := ⟨g, 0, none⟩) (Nat.zero_le _) c0).setCell (p := ⟨g, 1, none⟩) (Nat.zero_le _) c1).setCell (p := ⟨g, 2, none⟩) (Nat.zero_le _) c2).setCell (p := ⟨g, 3, none⟩) (Nat.zero_le _) c3).setCell (p := ⟨g, 4, none⟩) (Nat.zero_le _) c4
  ⟨hb.os, hb.tape, hb.output, by simp [World.setCell], fun b hb => by
    rw [Below.heap_setCell _ _ _ _ (by simpa using hb), Below.heap_setCell _ _ _ _ (by simpa using hb), Below.heap_setCell _ _ _ _ (by simpa using hb), Below.heap_setCell _ _ _ _ (by simpa using hb), Below.heap_setCell _ _ _ _ (by simpa using hb)]⟩

section
variable {F F' : Nat → Prop} {w w1 w' : World} {g mb : Nat} {vo vt pt : Value} {fs : List FV} {tx : List UInt8} {n : Nat} {D : DataW Unit}
/-- Behind a step, and stores into a block that lay not in F: F may have grown. -/
theorem Bld.widen (h : Bld F w g mb vo vt pt fs tx n D) (h1 : ∀ b, F b → F' b) (h2 : ∀ b, F' b → b < w'.heap.size) (hf : ∀ b, F b → w'.heap[b]? = w.heap[b]?) : Bld F' w' g mb vo vt pt fs tx n D ∧ Carry (idleB F g mb vo vt fs) (idleB F' g mb vo vt fs) w w' :=
  ⟨h.keep h1 h2 hf, fun b hb => ⟨⟨h1 b hb.1, hb.2⟩, hf b hb.1⟩⟩
theorem Bld.text_slice (h : Bld F w g mb vo vt pt fs tx n D) : ∃ a c, vt = .slice a tx.length c := by
  rcases h.text.2 with ⟨rfl, h0⟩ | ⟨c, cap, cur, fz, rfl, _⟩
  · exact ⟨none, 0, by rw [h0]⟩
  · exact ⟨_, _, rfl⟩
theorem Bld.text_ne (h : Bld F w g mb vo vt pt fs tx n D) : vt.ownBlock ≠ some g := fun e => by
  have := h.inj 3 0 g e rfl
  omega
end
abbrev textV (tx : List UInt8) : Value := .agg #[.int .i64 2, .string ⟨#[]⟩, .slice none 0 0, .string ⟨tx.toArray⟩, .slice none 0 0]

set_option maxHeartbeats 4000000 in
set_option maxRecDepth 100000 in
theorem bTold {F : Nat → Prop} {w : World} {g mb : Nat} {vo vt pt : Value} {fs : List FV} {tx : List UInt8} {n : Nat} {D : DataW Unit} (h : Bld F w g mb vo vt pt fs tx n D) (h0 : tx ≠ []) :
    Calls Tryz.prog 209 #[.pointer (some ⟨g, 0, none⟩)] w fun e w' => e = .returned (textV tx) ∧ Bld (grw F w w') w' g mb vo vt pt fs tx n D ∧ Out F w w' ∧ Carry (idleB F g mb vo vt fs) (idleB (grw F w w') g mb vo vt fs) w w' := by
  have hgl := h.box.lt
  have bz := Box.new w 41 [.int .i64 0, .string ⟨#[]⟩, .slice none 0 0, .string ⟨#[]⟩, .slice none 0 0]
  have hb0 : Below w.heap.size w (w.alloc (.cells #[.int .i64 0, .string ⟨#[]⟩, .slice none 0 0, .string ⟨#[]⟩, .slice none 0 0] 41)) := (Below.refl _ w).alloc (Nat.le_refl _) _
  have hs0 : (w.alloc (.cells #[.int .i64 0, .string ⟨#[]⟩, .slice none 0 0, .string ⟨#[]⟩, .slice none 0 0] 41)).heap.size = w.heap.size + 1 := by simp
  change Box (w.alloc (.cells #[.int .i64 0, .string ⟨#[]⟩, .slice none 0 0, .string ⟨#[]⟩, .slice none 0 0] 41)) _ _ _ at bz
  have hB0 := h.below hb0
  have hC0 : Carry (idleB F g mb vo vt fs) (idleB F g mb vo vt fs) w (w.alloc (.cells #[.int .i64 0, .string ⟨#[]⟩, .slice none 0 0, .string ⟨#[]⟩, .slice none 0 0] 41)) := fun b hb => ⟨hb, hb0.block b (h.lt b hb.1)⟩
  have hlt := h.lt
  replace hlt := Lib.hid hlt
  replace hC0 := Lib.hid hC0
  replace hB0 := Lib.hid hB0
  replace bz := Lib.hid bz
  go_enter Tryz.func209, Tryz.ntmps209
  go_wp2_with fail
  obtain ⟨w0, hw0⟩ : ∃ W, w.alloc (.cells #[.int .i64 0, .string ⟨#[]⟩, .slice none 0 0, .string ⟨#[]⟩, .slice none 0 0] 41) = W := ⟨_, rfl⟩
  rw [hw0] at bz hb0 hs0 hB0 hC0 ⊢
  clear hw0
  refine (bxString g _ _ _ _ tx w0 hB0.out.box hB0.out.text hB0.out.text_ne h0).mono ?_
  rintro e w1 ⟨rfl, hbx, htx, hT, hz⟩
  obtain ⟨hB1, hO1, hC1⟩ := hB0.out.txt (pt' := pt) (vt' := vt) hbx hB0.out.ptr htx (fun c hc => .inl hc) hT
  have bz1 := bz.out.keep (w' := w1) (hT.2.2.2.2 w.heap.size (by omega) (by omega) (fun e => by have := hB0.out.role_lt (i := 3) e; have := hlt.out _ (h.sub 3 _ e); omega))
  have q0 := bz1.cell (i := 0) rfl
  have q1 := bz1.cell (i := 1) rfl
  have q2 := bz1.cell (i := 2) rfl
  have q3 := bz1.cell (i := 3) rfl
  have q4 := bz1.cell (i := 4) rfl
  have fz := bz1.free
  have bz2 := boxS5 bz1 (.int .i64 2) (.string ⟨#[]⟩) (.slice none 0 0) (.string ⟨tx.toArray⟩) (.slice none 0 0)
  have hfar := farS5 w1 w.heap.size (.int .i64 2) (.string ⟨#[]⟩) (.slice none 0 0) (.string ⟨tx.toArray⟩) (.slice none 0 0)
  replace hB1 := Lib.hid hB1
  replace hO1 := Lib.hid hO1
  replace hC1 := Lib.hid hC1
  replace hfar := Lib.hid hfar
  replace bz2 := Lib.hid bz2
  clear hbx htx hT
  go_wp2_with fail
  obtain ⟨w2, hw2⟩ : ∃ W, (((((w1.setCell ⟨w.heap.size, 0, none⟩ (.int .i64 2)).setCell ⟨w.heap.size, 1, none⟩ (.string ⟨#[]⟩)).setCell ⟨w.heap.size, 2, none⟩ (.slice none 0 0)).setCell ⟨w.heap.size, 3, none⟩ (.string ⟨tx.toArray⟩)).setCell ⟨w.heap.size, 4, none⟩ (.slice none 0 0)) = W := ⟨_, rfl⟩
  rw [hw2] at bz2 hfar ⊢
  clear hw2 q0 q1 q2 q3 q4 fz
  have q0 := bz2.out.cell (i := 0) rfl
  have q1 := bz2.out.cell (i := 1) rfl
  have q2 := bz2.out.cell (i := 2) rfl
  have q3 := bz2.out.cell (i := 3) rfl
  have q4 := bz2.out.cell (i := 4) rfl
  have hzz := hfar.out.size
  obtain ⟨hBf, hCf⟩ := hB1.out.widen (F' := grw F w w2) (w' := w2) (fun b hb => hb.elim .inl (fun e => .inr ⟨by omega, by omega⟩)) (fun b hb => hb.elim (fun e => by have := hlt.out b e; omega) (fun e => e.2)) (fun b hb => hfar.out.block b (fun e => hb.elim (fun h2 => by have := hlt.out b h2; omega) (fun h2 => by omega)))
  refine bodyPost_ret (v := textV tx) (by simp [results, Tryz.results209, go_sem, q0, q1, q2, q3, q4]) rfl ⟨rfl, hBf, ?_, (hC0.out.trans hC1.out).trans hCf⟩
  exact ⟨hfar.out.os.trans (hO1.out.os.trans hb0.os), hfar.out.tape.trans (hO1.out.tape.trans hb0.tape), hfar.out.output.trans (hO1.out.output.trans hb0.output), by omega, fun b hb hF => (hfar.out.block b (by omega)).trans ((hO1.out.block b (by omega) hF).trans (hb0.block b hb))⟩

section
variable {F F' : Nat → Prop} {w w1 w' : World} {g mb : Nat} {vo vt pt : Value} {fs : List FV} {tx : List UInt8} {n : Nat} {D : DataW Unit}
theorem wk_self (x : Nd) : M7.wk x x.kids = x := by cases x; rfl
theorem wk_wk (x : Nd) (a b : List Nd) : M7.wk (M7.wk x a) b = M7.wk x b := rfl

theorem own_sliceW {w : World} {B : Nat} {e : TypeId} {k m : Nat} {v : Value} {xs : List Value} (h : w.ownsRow B e k v m xs) : ∃ a c, v = .slice a m c := by
  rcases h.2 with ⟨rfl, rfl⟩ | ⟨g, cap, cur, rfl, _⟩
  · exact ⟨none, 0, rfl⟩
  · exact ⟨_, _, rfl⟩
theorem frozen_alloc7 {w : World} {o : Obj} {b j : Nat} (hb : b < w.heap.size) : (w.alloc o).frozen? ⟨b, j, none⟩ = w.frozen? ⟨b, j, none⟩ := World.frozen?_of_block (a := ⟨b, j, none⟩) (Below.heap_alloc w o b hb)
/-- The innermost one's cell of kids. -/
theorem Bld.last_cell {A : List FV} {f : FV} {go cap : Nat} (h : Bld F w g mb vo vt pt (A ++ [f]) tx n D) (hvo : vo = .slice (some ⟨go, 0, none⟩) (A.length + 1) cap) (j : Nat) (u : Value) (hj : j < 6) (hu : f.cells[j]? = some u) : w.cell? ⟨go, A.length * 6 + j, none⟩ = some u ∧ w.frozen? ⟨go, A.length * 6 + j, none⟩ = false := by
  have hr := h.row
  rw [hvo, List.length_append] at hr
  exact own_cell hr _ _ ((cellsF_last A f j hj).trans hu)
theorem Bld.vo_snoc {A : List FV} {f : FV} (h : Bld F w g mb vo vt pt (A ++ [f]) tx n D) : ∃ go cap, vo = .slice (some ⟨go, 0, none⟩) (A.length + 1) cap := by
  obtain ⟨go, cap, e, _⟩ := h.open_slice (by simp)
  exact ⟨go, cap, by rw [e]; simp⟩
theorem Bld.same_grw (h : Bld F w g mb vo vt pt fs tx n D) : Bld (grw F w w) w g mb vo vt pt fs tx n D ∧ Out F w w ∧ Carry (idleB F g mb vo vt fs) (idleB (grw F w w) g mb vo vt fs) w w := by
  obtain ⟨h1, h2⟩ := h.widen (F' := grw F w w) (w' := w) (fun _ h => .inl h) (grw_lt h.lt (Nat.le_refl _)) (fun _ _ => rfl)
  exact ⟨h1, Out.refl _ _, h2⟩
theorem Carry.grw {I : Nat → Prop} {w1 w2 : World} {vo' vt' : Value} {fs' : List FV} (h : Carry I (idleB (grw (grw F w w1) w1 w2) g mb vo' vt' fs') w w2) (h1 : w.heap.size ≤ w1.heap.size) (h2 : w1.heap.size ≤ w2.heap.size) : Carry I (idleB (Go.Proofs.YteefodibpjgicaaGreat.grw F w w2) g mb vo' vt' fs') w w2 := fun b hb => ⟨⟨(grw_grw h1 h2 b).1 (h b hb).1.1, (h b hb).1.2⟩, (h b hb).2⟩
theorem Bld.grw2 {w2 : World} (h : Bld (grw (grw F w w1) w1 w2) w2 g mb vo vt pt fs tx n D) (h1 : w.heap.size ≤ w1.heap.size) (h2 : w1.heap.size ≤ w2.heap.size) : Bld (grw F w w2) w2 g mb vo vt pt fs tx n D := h.iff (grw_grw h1 h2)
end
/-- What a step leaves: another state, in F and what it made. -/
def BSt (F : Nat → Prop) (w : World) (g mb : Nat) (vo vt : Value) (fs : List FV) (w' : World) (vo' vt' pt' : Value) (fs' : List FV) (tx' : List UInt8) (n' : Nat) (D' : DataW Unit) : Prop :=
  Bld (grw F w w') w' g mb vo' vt' pt' fs' tx' n' D' ∧ Out F w w' ∧ Carry (idleB F g mb vo vt fs) (idleB (grw F w w') g mb vo' vt' fs') w w'
theorem BSt.trans {F : Nat → Prop} {w w1 w2 : World} {g mb : Nat} {vo vt vo1 vt1 pt1 vo2 vt2 pt2 : Value} {fs fs1 fs2 : List FV} {tx1 tx2 : List UInt8} {n1 n2 : Nat} {D1 D2 : DataW Unit} (h : BSt F w g mb vo vt fs w1 vo1 vt1 pt1 fs1 tx1 n1 D1) (k : BSt (grw F w w1) w1 g mb vo1 vt1 fs1 w2 vo2 vt2 pt2 fs2 tx2 n2 D2) : BSt F w g mb vo vt fs w2 vo2 vt2 pt2 fs2 tx2 n2 D2 :=
  ⟨k.1.grw2 h.2.1.size k.2.1.size, h.2.1.trans k.2.1, (h.2.2.trans k.2.2).grw h.2.1.size k.2.1.size⟩
/-- New blocks, and nothing else. -/
theorem Bld.st_below {F : Nat → Prop} {w w' : World} {g mb : Nat} {vo vt pt : Value} {fs : List FV} {tx : List UInt8} {n : Nat} {D : DataW Unit} (h : Bld F w g mb vo vt pt fs tx n D) (hb : Below w.heap.size w w') : BSt F w g mb vo vt fs w' vo vt pt fs tx n D :=
  ⟨h.grow hb, ⟨hb.os, hb.tape, hb.output, hb.size, fun b hb' _ => hb.block b hb'⟩, h.carry_below hb⟩

set_option maxHeartbeats 8000000 in
set_option maxRecDepth 100000 in
theorem bSettle {F : Nat → Prop} {w : World} {g mb : Nat} {vo vt pt : Value} {A : List FV} {f : FV} {tx : List UInt8} {n : Nat} {D : DataW Unit} (h : Bld F w g mb vo vt pt (A ++ [f]) tx n D) (hA : A.length ≤ 1000000) (hfl : f.x.kids.length ≤ 1000000) :
    Calls Tryz.prog 223 #[.pointer (some ⟨g, 0, none⟩)] w fun e w' => e = .returned (.tuple #[]) ∧ ∃ vt' pt' f', f'.x = M7.wk f.x (f.x.kids ++ M7.endK tx) ∧ f'.nx = f.nx ∧ BSt F w g mb vo vt (A ++ [f]) w' vo vt' pt' (A ++ [f']) [] n D := by
  obtain ⟨go, cap, hvo⟩ := h.vo_snoc
  obtain ⟨at_, ct, hvt⟩ := h.text_slice
  have b2 := h.box.cell (i := 2) rfl
  rw [hvt] at b2
  have hL := bxLen g _ _ _ w b2
  by_cases htx : tx = []
  · have hst : Hid (∃ vt' pt' f', f'.x = M7.wk f.x (f.x.kids ++ M7.endK tx) ∧ f'.nx = f.nx ∧ BSt F w g mb vo vt (A ++ [f]) w vo vt' pt' (A ++ [f']) [] n D) := by
      subst htx
      exact ⟨vt, pt, f, by rw [M7.endK_nil, List.append_nil, wk_self], rfl, h.same_grw⟩
    subst htx
    replace hL := Lib.hid hL
    clear h
    go_enter Tryz.func223, Tryz.ntmps223
    go_wp2_with fail
    refine hL.out.mono ?_
    rintro e w1 ⟨rfl, rfl⟩
    go_wp2_with fail
    exact bodyPost_ret (v := .tuple #[]) (by simp [results, Tryz.results223, go_sem]) rfl ⟨rfl, hst.out⟩
  · have hpos : (tx.length : Int) ≠ 0 := by
      have := List.length_pos_iff.2 htx
      omega
    have hT := Lib.hid (fun W (hW : Bld F W g mb vo vt pt (A ++ [f]) tx n D) => bTold hW htx)
    replace hL := Lib.hid hL
    obtain ⟨j0, hj0, hj00, hj01, hj02⟩ := info_parts infoN
    obtain ⟨xs, o1, rep1⟩ := h.kids f (by simp)
    obtain ⟨ak, ck, hvk⟩ := own_sliceW o1
    go_enter Tryz.func223, Tryz.ntmps223
    go_wp2_with fail
    refine hL.out.mono ?_
    rintro e w1 ⟨rfl, rfl⟩
    have k0 := h.box.cell (i := 0) rfl
    rw [hvo] at k0
    obtain ⟨k4, f4⟩ := h.last_cell hvo 4 f.vk (by decide) rfl
    have hgk : f.vk.ownBlock ≠ some g := fun e => by
      have := h.inj (A.length + 4) 0 g ((role_last ..).trans e) rfl; omega
    have hgok : f.vk.ownBlock ≠ some go := fun e => by
      have := h.inj (A.length + 4) 2 go ((role_last ..).trans e) (by rw [hvo]; rfl); omega
    have hgol : go < w.heap.size := h.role_lt (i := 2) (by rw [hvo]; rfl)
    have hgl := h.box.lt
    have hkk := fun W (hW : Bld (grw F w.drew.drew.drew W) W g mb vo vt pt (A ++ [f]) tx n D) => (hW.last_cell hvo 4 f.vk (by decide) rfl)
    have hk0 : ∀ W (hW : Bld (grw F w.drew.drew.drew W) W g mb vo vt pt (A ++ [f]) tx n D), W.cell? ⟨g, 0, none⟩ = some (.slice (some ⟨go, 0, none⟩) (A.length + 1) cap) := fun W hW => by
      have := hW.box.cell (i := 0) rfl
      rw [hvo] at this
      exact this
    replace hkk := Lib.hid hkk
    replace hk0 := Lib.hid hk0
    replace h := Lib.hid h
    rw [hvk] at k4 hgk hgok hkk
    go_wp2_with fail
    go_region_law
      (first
        | (go_simp; go_at_call 220; refine (bInner (by assumption) hA).mono ?_; rintro e w' ⟨rfl, rfl⟩)
        | (go_simp; go_at_call 209; refine (hT.out _ h.out.drew.drew.drew).mono ?_; rintro e wt ⟨rfl, hBt, hOt, hCt⟩; have t0 := hk0.out _ hBt; obtain ⟨t4, tf⟩ := hkk.out _ hBt; have tz : go < wt.heap.size := Nat.lt_of_lt_of_le hgol hOt.size; obtain ⟨xs, o1, rep1⟩ := hBt.kids f (by simp); rw [hvk] at o1; have tz1 : g < wt.heap.size := hBt.box.lt; replace rep1 := Lib.hid rep1; replace hBt := Lib.hid hBt; replace hOt := Lib.hid hOt; replace hCt := Lib.hid hCt)
        | (refine step_append_lies _ (by rfl) _ _ _ (by rfl) 0 41 j0 _ 5 88 Tryz.underlying25 hj0 hj00 hj01 hj02 rfl (by omega) (.slice ak f.x.kids.length ck) f.x.kids.length xs (by rfl) (o1.alloc _) ⟨wt.heap.size, 0, none⟩ 1 1 [.int .i64 2, .string ⟨#[]⟩, .slice none 0 0, .string ⟨tx.toArray⟩, .slice none 0 0] (by rfl) (by rfl) (World.news_of_block (cs := #[.int .i64 2, .string ⟨#[]⟩, .slice none 0 0, .string ⟨tx.toArray⟩, .slice none 0 0]) (t := 41) (fr := (0, 0)) (heap_alloc_new wt _)) (by simp [Value.oneCell']) (by omega) (by unfold maxLen; omega) (by omega) (by simp) (wt.heap.size + 1) (by simp) ?_; intro gg c2 w5 hown5 hgrow hat hlt; have f5 : w5.frozen? ⟨go, A.length * 6 + 4, none⟩ = false := (hgrow.frozen_far ⟨go, A.length * 6 + 4, none⟩ (Nat.lt_of_lt_of_le tz (by simp)) (Ne.symm hgok)).trans ((frozen_alloc7 tz).trans tf); have k5 : w5.cell? ⟨go, A.length * 6 + 4, none⟩ = some (.slice ak f.x.kids.length ck) := (hgrow.cell_far ⟨go, A.length * 6 + 4, none⟩ (Nat.lt_of_lt_of_le tz (by simp)) (Ne.symm hgok)).trans ((World.cell?_of_block (a := ⟨go, A.length * 6 + 4, none⟩) (Below.heap_alloc wt _ go tz)).trans t4)))
    all_goals
      go_wp2_with fail
      have s0 : BSt F w g mb vo vt (A ++ [f]) wt vo vt pt (A ++ [f]) tx n D := ⟨hBt.out, ⟨hOt.out.os, hOt.out.tape, hOt.out.output, hOt.out.size, hOt.out.block⟩, hCt.out⟩
      have s1 := s0.1.st_below ((Below.refl _ wt).alloc (Nat.le_refl _) (.cells #[.int .i64 2, .string ⟨#[]⟩, .slice none 0 0, .string ⟨tx.toArray⟩, .slice none 0 0] 41))
      have rep2 := RepC.mono (fun b hb => (s1.2.2 b hb).1) _ _ (RepC.keep (fun b hb => (s1.2.2 b hb).2) _ _ rep1.out)
      have s2 := s1.1.kid (x := .mk 2 ⟨#[]⟩ [] ⟨tx.toArray⟩ []) (va := .slice none 0 0) (vk := .slice none 0 0) hvo ⟨Row.nil _ _ _, RepN.nil _ _⟩ rep2 (by rw [hvk]; exact hgrow) hown5 (by
        rw [hvk]
        rcases hat with h1 | h1
        · exact .inl h1
        · exact .inr (by rw [h1]; simp))
      have s3 : BSt F w g mb vo vt (A ++ [f]) _ vo vt pt _ tx n D := s0.trans (s1.trans s2)
      clear s0 s1 s2 rep2
      obtain ⟨w6, hw6⟩ : ∃ W, w5.setCell ⟨go, A.length * 6 + 4, none⟩ (.slice (some ⟨gg, 0, none⟩) (f.x.kids.length + 1) c2) = W := ⟨_, rfl⟩
      rw [hw6] at s3 ⊢
      refine (bxReset g _ _ _ _ w6 s3.1.box).mono ?_
      rintro e w7 ⟨rfl, hw7⟩
      have bx7 := (s3.1.box.set 1 (.pointer none)).set 2 (.slice none 0 0)
      simp only [List.set_cons_succ, List.set_cons_zero] at bx7
      rw [← hw7] at bx7
      have s4 := s3.1.txt (w' := w7) (tx' := []) bx7 (.inl rfl) (World.ownsRowF_nil _ _ _ _) (fun c hc => by cases hc) ⟨by rw [hw7]; rfl, by rw [hw7]; rfl, by rw [hw7]; rfl, by rw [hw7]; simp, fun b hb hg _ => by rw [hw7, Below.heap_setCell _ _ _ _ hg, Below.heap_setCell _ _ _ _ hg]⟩
      have s5 : BSt F w g mb vo vt (A ++ [f]) w7 vo (.slice none 0 0) (.pointer none) _ [] n D := s3.trans s4
      replace s5 := Lib.hid s5
      clear s3 s4 bx7 hw7 hw6 hgrow hown5 hat hBt hOt hCt rep1 o1 hT hL hkk hk0 h
      go_wp2_with fail
      go_end0
      exact ⟨rfl, _, _, ⟨M7.wk f.x (f.x.kids ++ [.mk 2 ⟨#[]⟩ [] ⟨tx.toArray⟩ []]), f.va, _, f.nx⟩, by rw [M7.endK_cons htx], rfl, s5.out⟩

/-- New blocks ahead of a step that are none of its own. -/
theorem BSt.start {F : Nat → Prop} {w w0 w1 : World} {g mb : Nat} {vo vt vo1 vt1 pt1 : Value} {fs fs1 : List FV} {tx1 : List UInt8} {n1 : Nat} {D1 : DataW Unit} (hb : Below w.heap.size w w0) (hlt : ∀ b, F b → b < w.heap.size) (h : BSt F w0 g mb vo vt fs w1 vo1 vt1 pt1 fs1 tx1 n1 D1) : BSt F w g mb vo vt fs w1 vo1 vt1 pt1 fs1 tx1 n1 D1 := by
  obtain ⟨h1, h2, h3⟩ := h
  have hz := hb.size
  have hz1 := h2.size
  have hF : ∀ b, grw F w0 w1 b → grw F w w1 b := fun b hb => hb.elim .inl (fun e => .inr ⟨by omega, e.2⟩)
  refine ⟨h1.keep hF (grw_lt hlt (by omega)) (fun _ _ => rfl), ⟨h2.os.trans hb.os, h2.tape.trans hb.tape, h2.output.trans hb.output, by omega, fun b hb' hF' => (h2.block b (by omega) hF').trans (hb.block b hb')⟩, fun b hb' => ?_⟩
  obtain ⟨q1, q2⟩ := h3 b hb'
  exact ⟨⟨hF b q1.1, q1.2⟩, q2.trans (hb.block b (hlt b hb'.1))⟩

set_option maxHeartbeats 8000000 in
set_option maxRecDepth 100000 in
theorem bAdd {F : Nat → Prop} {w : World} {g mb : Nat} {vo vt pt : Value} {A : List FV} {f : FV} {tx : List UInt8} {n : Nat} {D : DataW Unit} (h : Bld F w g mb vo vt pt (A ++ [f]) tx n D) (hA : A.length ≤ 1000000) (hfl : f.x.kids.length ≤ 1000000) {x : Nd} {va vk : Value} (hx : RepV (idleB F g mb vo vt (A ++ [f])) w x va vk) :
    Calls Tryz.prog 222 #[.pointer (some ⟨g, 0, none⟩), x.val va vk] w fun e w' => e = .returned (.tuple #[]) ∧ ∃ vt' pt' f', f'.x = M7.wk f.x (f.x.kids ++ M7.endK tx ++ [x]) ∧ f'.nx = f.nx ∧ BSt F w g mb vo vt (A ++ [f]) w' vo vt' pt' (A ++ [f']) [] n D := by
  obtain ⟨go, cap, hvo⟩ := h.vo_snoc
  obtain ⟨j0, hj0, hj00, hj01, hj02⟩ := info_parts infoN
  obtain ⟨aa, ca, hva⟩ := hx.at_.slice
  obtain ⟨akk, ckk, hvkk⟩ := hx.kids.slice
  have bz := Box.new w 41 [.int .i64 x.kind, .string x.name, va, .string x.text, vk]
  have hb0 : Below w.heap.size w (w.alloc (.cells #[.int .i64 x.kind, .string x.name, va, .string x.text, vk] 41)) := (Below.refl _ w).alloc (Nat.le_refl _) _
  have hs0 : (w.alloc (.cells #[.int .i64 x.kind, .string x.name, va, .string x.text, vk] 41)).heap.size = w.heap.size + 1 := by simp
  change Box (w.alloc (.cells #[.int .i64 x.kind, .string x.name, va, .string x.text, vk] 41)) _ _ _ at bz
  have hB0 := h.below hb0
  have hx0 : RepV (idleB F g mb vo vt (A ++ [f])) (w.alloc (.cells #[.int .i64 x.kind, .string x.name, va, .string x.text, vk] 41)) x va vk := hx.keep (fun b hb => hb0.block b (h.lt b hb.1))
  have hlt := h.lt
  have hone : ∀ u ∈ ([.int .i64 x.kind, .string x.name, va, .string x.text, vk] : List Value), u.oneCell' = true := by
    rw [hva, hvkk]; simp [Value.oneCell']
  clear hva hvkk
  replace hlt := Lib.hid hlt
  replace hB0 := Lib.hid hB0
  replace hx0 := Lib.hid hx0
  replace bz := Lib.hid bz
  go_enter Tryz.func222, Tryz.ntmps222
  go_wp2_with fail
  obtain ⟨w0, hw0⟩ : ∃ W, w.alloc (.cells #[.int .i64 x.kind, .string x.name, va, .string x.text, vk] 41) = W := ⟨_, rfl⟩
  rw [hw0] at bz hb0 hs0 hB0 hx0 ⊢
  clear hw0
  refine (bSettle hB0.out hA hfl).mono ?_
  rintro e w1 ⟨rfl, vt1, pt1, f1, hf1x, hf1n, s0⟩
  obtain ⟨xs, o1, rep1⟩ := s0.1.kids f1 (by simp)
  obtain ⟨ak, ck, hvk⟩ := own_sliceW o1
  have k0 := s0.1.box.cell (i := 0) rfl
  rw [hvo] at k0
  obtain ⟨k4, f4⟩ := s0.1.last_cell hvo 4 f1.vk (by decide) rfl
  have hgk : f1.vk.ownBlock ≠ some g := fun e => by
    have := s0.1.inj (A.length + 4) 0 g ((role_last ..).trans e) rfl; omega
  have hgok : f1.vk.ownBlock ≠ some go := fun e => by
    have := s0.1.inj (A.length + 4) 2 go ((role_last ..).trans e) (by rw [hvo]; rfl); omega
  have hgol : go < w1.heap.size := s0.1.role_lt (i := 2) (by rw [hvo]; rfl)
  have hgl := s0.1.box.lt
  have hz1 := s0.2.1.size
  have bz1 := bz.out.keep (w' := w1) (s0.2.1.block _ (by omega) (fun e => by have := hlt.out _ e; omega))
  have p0 := bz1.cell (i := 0) rfl
  have p1 := bz1.cell (i := 1) rfl
  have p2 := bz1.cell (i := 2) rfl
  have p3 := bz1.cell (i := 3) rfl
  have p4 := bz1.cell (i := 4) rfl
  have hfl1 : f1.x.kids.length ≤ 1000001 := by
    rw [hf1x]
    show (f.x.kids ++ M7.endK tx).length ≤ _
    rw [List.length_append]
    have : (M7.endK tx).length ≤ 1 := by unfold M7.endK; split <;> simp
    omega
  rw [hvk] at k4 hgk hgok
  have o1' := o1
  rw [hvk] at o1'
  replace s0 := Lib.hid s0
  replace rep1 := Lib.hid rep1
  replace hf1x := Lib.hid hf1x
  clear bz1 bz h o1 hx
  go_wp2_with fail
  go_region_law
    (first
      | (go_simp; go_at_call 220; refine (bInner (go := go) (cap := cap) (by first | assumption | (simp [*, World.cell?_alloc_some])) hA).mono ?_; rintro e w' ⟨rfl, rfl⟩)
      | (refine step_append_lies _ (by rfl) _ _ _ (by rfl) 0 41 j0 _ 5 88 Tryz.underlying25 hj0 hj00 hj01 hj02 rfl (by omega) (.slice ak f1.x.kids.length ck) f1.x.kids.length xs (by rfl) ((o1'.alloc _).drew.drew.drew) ⟨w1.heap.size, 0, none⟩ 1 1 [.int .i64 x.kind, .string x.name, va, .string x.text, vk] (by rfl) (by rfl) (World.news_of_block (cs := #[.int .i64 x.kind, .string x.name, va, .string x.text, vk]) (t := 41) (fr := (0, 0)) (heap_alloc_new w1 _)) hone (by omega) (by unfold maxLen; omega) (by omega) (by simp) (w1.heap.size + 1) (by simp) ?_; intro gg c2 w5 hown5 hgrow hat hlt5; have f5 : w5.frozen? ⟨go, A.length * 6 + 4, none⟩ = false := (hgrow.frozen_far ⟨go, A.length * 6 + 4, none⟩ (Nat.lt_of_lt_of_le hgol (by simp)) (Ne.symm hgok)).trans ((frozen_alloc7 hgol).trans f4); have k5 : w5.cell? ⟨go, A.length * 6 + 4, none⟩ = some (.slice ak f1.x.kids.length ck) := (hgrow.cell_far ⟨go, A.length * 6 + 4, none⟩ (Nat.lt_of_lt_of_le hgol (by simp)) (Ne.symm hgok)).trans ((World.cell?_of_block (a := ⟨go, A.length * 6 + 4, none⟩) (Below.heap_alloc w1 _ go hgol)).trans k4)))
  all_goals
    go_wp2_with fail
    have hb1 : Below w1.heap.size w1 (w1.alloc (.cells #[.int .i64 x.kind, .string x.name, va, .string x.text, vk] 41)) := (Below.refl _ w1).alloc (Nat.le_refl _) _
    have s1 := s0.out.1.st_below hb1
    have rep2 := RepC.mono (fun b hb => (s1.2.2 b hb).1) _ _ (RepC.keep (fun b hb => (s1.2.2 b hb).2) _ _ rep1.out)
    have s2 := s1.1.kid (x := x) (va := va) (vk := vk) hvo ((s0.out.2.2.trans s1.2.2).rep hx0.out) rep2 (w2 := w5) (by rw [hvk]; exact ⟨hgrow.os, hgrow.tape, hgrow.output, hgrow.size, hgrow.block⟩) hown5 (by
      rw [hvk]
      rcases hat with h1 | h1
      · exact .inl h1
      · exact .inr (by rw [h1]; simp))
    have s3 : BSt F w g mb vo vt (A ++ [f]) _ vo vt1 pt1 _ [] n D := (s0.out.trans (s1.trans s2)).start hb0 hlt.out
    replace s3 := Lib.hid s3
    clear s1 s2 rep2 hgrow hown5 hat s0 rep1 o1'
    go_end0
    exact ⟨rfl, _, _, ⟨M7.wk f1.x (f1.x.kids ++ [x]), f1.va, _, f1.nx⟩, by rw [hf1x.out]; rfl, hf1n, s3.out⟩
end Go.Proofs.YteefodibpjgicaaGreat

/- Package build: shut. -/
namespace Go.Proofs.YteefodibpjgicaaGreat
open Go.RowKit Go.Maps
theorem Bld.popS {F : Nat → Prop} {w : World} {g mb : Nat} {vo vt pt : Value} {A : List FV} {f : FV} {go cap : Nat} {tx : List UInt8} {n : Nat} {D : DataW Unit} (h : Bld F w g mb vo vt pt (A ++ [f]) tx n D) (hvo : vo = .slice (some ⟨go, 0, none⟩) (A.length + 1) cap) :
    BSt F w g mb vo vt (A ++ [f]) (w.setCell ⟨g, 0, none⟩ (.slice (some ⟨go, 0, none⟩) A.length cap)).drew (.slice (some ⟨go, 0, none⟩) A.length cap) vt pt A tx n D ∧
    RepV (idleB (grw F w (w.setCell ⟨g, 0, none⟩ (.slice (some ⟨go, 0, none⟩) A.length cap)).drew) g mb (.slice (some ⟨go, 0, none⟩) A.length cap) vt A) (w.setCell ⟨g, 0, none⟩ (.slice (some ⟨go, 0, none⟩) A.length cap)).drew f.x f.va f.vk := by
  obtain ⟨h1, h2, h3⟩ := h.pop hvo
  have hz : (w.setCell ⟨g, 0, none⟩ (.slice (some ⟨go, 0, none⟩) A.length cap)).drew.heap.size = w.heap.size := by simp
  have hF : ∀ b, F b → grw F w (w.setCell ⟨g, 0, none⟩ (.slice (some ⟨go, 0, none⟩) A.length cap)).drew b := fun b hb => .inl hb
  refine ⟨⟨h1.keep hF (grw_lt h.lt (by omega)) (fun _ _ => rfl), ⟨h3.os, h3.tape, h3.output, h3.size, h3.block⟩, fun b hb => ?_⟩, RepV.mono (RepV.keep (w' := (w.setCell ⟨g, 0, none⟩ (.slice (some ⟨go, 0, none⟩) A.length cap)).drew) h2 (fun _ _ => rfl)) (fun b hb => ⟨hF b hb.1, hb.2⟩)⟩
  refine ⟨⟨.inl hb.1, fun i e => ?_⟩, Below.heap_setCell _ _ _ _ (fun e => hb.2 0 (by rw [show b = g from e]; rfl))⟩
  match i, e with
  | 0, e => exact hb.2 0 e
  | 1, e => exact hb.2 1 e
  | 3, e => exact hb.2 3 e
  | 2, e => exact hb.2 2 (by rw [hvo]; exact e)
  | i + 4, e =>
    have e : (A[i]?).bind (fun f => f.vk.ownBlock) = some b := e
    have hi : i < A.length := by
      rcases Nat.lt_or_ge i A.length with h1 | h1
      · exact h1
      · rw [List.getElem?_eq_none h1] at e; cases e
    refine hb.2 (i + 4) ?_
    show ((A ++ [f])[i]?).bind _ = _
    rw [List.getElem?_append_left hi]
    exact e

theorem keySS : Keyed Tryz.prog 9 := string_keyed Tryz.underlying9
def keyN (s : ByteArray) : Lit := .string s.data.toList
/-- The map behind an element that is no more open. -/
def shutD (f : FV) (D : DataW Unit) : DataW Unit := if f.nx = 0 then D.del (keyN f.x.name) else D.put (keyN f.x.name) (.lit (.int .i64 (f.nx : Int)))

set_option maxHeartbeats 8000000 in
set_option maxRecDepth 100000 in
theorem bShut {F : Nat → Prop} {w : World} {g mb : Nat} {vo vt pt : Value} {A : List FV} {p f : FV} {tx : List UInt8} {n : Nat} {D : DataW Unit} (h : Bld F w g mb vo vt pt ((A ++ [p]) ++ [f]) tx n D) (hA : A.length ≤ 900000) (hfl : f.x.kids.length ≤ 900000) (hpl : p.x.kids.length ≤ 900000) (hnm : f.x.name.size ≤ 1073741824) (hnx : f.nx ≤ 1000000) (hn : n ≤ 1000000) :
    Calls Tryz.prog 221 #[.pointer (some ⟨g, 0, none⟩)] w fun e w' => e = .returned (.tuple #[]) ∧ ∃ vo' vt' pt' p' n', p'.x = M7.wk p.x (p.x.kids ++ [M7.wk f.x (f.x.kids ++ M7.endK tx)]) ∧ p'.nx = p.nx ∧ n' ≤ n + 1 ∧ BSt F w g mb vo vt ((A ++ [p]) ++ [f]) w' vo' vt' pt' (A ++ [p']) [] n' (shutD f D) := by
  obtain ⟨go, cap, hvo⟩ := h.vo_snoc
  have hll : (A ++ [p]).length = A.length + 1 := by simp
  rw [hll] at hvo
  have hlt := h.lt
  replace hlt := Lib.hid hlt
  go_enter Tryz.func221, Tryz.ntmps221
  go_wp2_with fail
  refine (bSettle h (by omega) (by omega)).mono ?_
  rintro e w1 ⟨rfl, vt1, pt1, f1, hf1x, hf1n, s0⟩
  obtain ⟨x1, va1, vk1, nx1⟩ := f1
  obtain ⟨aa, ca, ea⟩ := (s0.1.atts ⟨x1, va1, vk1, nx1⟩ (by simp)).slice
  obtain ⟨ys, o1, -⟩ := s0.1.kids ⟨x1, va1, vk1, nx1⟩ (by simp)
  obtain ⟨ak, ck, ek⟩ := own_sliceW o1
  change va1 = .slice aa x1.attrs.length ca at ea
  change vk1 = .slice ak x1.kids.length ck at ek
  subst ea ek
  clear o1
  have k0 := s0.1.box.cell (i := 0) rfl
  have fg := s0.1.box.free
  have k2 := s0.1.box.cell (i := 3) rfl
  rw [hvo] at k0
  have hvo1 : vo = .slice (some ⟨go, 0, none⟩) ((A ++ [p]).length + 1) cap := by rw [hvo, hll]
  obtain ⟨c0, -⟩ := s0.1.last_cell hvo1 0 (.int .i64 x1.kind) (by decide) rfl
  obtain ⟨c1, -⟩ := s0.1.last_cell hvo1 1 (.string x1.name) (by decide) rfl
  obtain ⟨c2, -⟩ := s0.1.last_cell hvo1 2 (.slice aa x1.attrs.length ca) (by decide) rfl
  obtain ⟨c3, -⟩ := s0.1.last_cell hvo1 3 (.string x1.text) (by decide) rfl
  obtain ⟨c4, -⟩ := s0.1.last_cell hvo1 4 (.slice ak x1.kids.length ck) (by decide) rfl
  obtain ⟨c5, -⟩ := s0.1.last_cell hvo1 5 (.int .i64 (nx1 : Int)) (by decide) rfl
  rw [hll] at c0 c1 c2 c3 c4 c5
  simp only [Nat.add_zero] at c0
  replace s0 := Lib.hid s0
  change x1 = _ at hf1x
  change nx1 = f.nx at hf1n
  replace hf1x := Lib.hid hf1x
  replace hf1n := Lib.hid hf1n
  clear h
  have hI := Lib.hid (bInner (go := go) (cap := cap) k0 (by omega))
  go_wp2_with fail
  refine hI.out.mono ?_
  rintro e w2 ⟨rfl, rfl⟩
  go_upto_region 2 with fail
  have hb1 : Below w1.heap.size w1 (w1.alloc (.cells #[.int .i64 x1.kind, .string x1.name, .slice aa x1.attrs.length ca, .string x1.text, .slice ak x1.kids.length ck, .int .i64 (nx1 : Int)] 189)).drew := ((Below.refl _ w1).alloc (Nat.le_refl _) _).drew
  have bz := Box.new w1 189 [.int .i64 x1.kind, .string x1.name, .slice aa x1.attrs.length ca, .string x1.text, .slice ak x1.kids.length ck, .int .i64 (nx1 : Int)]
  change Box (w1.alloc (.cells #[.int .i64 x1.kind, .string x1.name, .slice aa x1.attrs.length ca, .string x1.text, .slice ak x1.kids.length ck, .int .i64 (nx1 : Int)] 189)).drew _ _ _ at bz
  obtain ⟨w2, hw2⟩ : ∃ W, (w1.alloc (.cells #[.int .i64 x1.kind, .string x1.name, .slice aa x1.attrs.length ca, .string x1.text, .slice ak x1.kids.length ck, .int .i64 (nx1 : Int)] 189)).drew = W := ⟨_, rfl⟩
  have hs2 : w2.heap.size = w1.heap.size + 1 := by rw [← hw2]; simp
  rw [hw2] at hb1 bz ⊢
  have s1 := s0.out.trans (s0.out.1.st_below hb1)
  clear k0 fg k2 c0 c1 c2 c3 c4 c5 hI hw2
  have k0 := s1.1.box.cell (i := 0) rfl
  have fg := s1.1.box.free
  rw [hvo] at k0
  obtain ⟨hcl, hcm⟩ : A.length + 1 + 1 ≤ cap ∧ cap ≤ 9223372036854775807 := by
    obtain ⟨go', cap', e, q1, q2, _⟩ := s1.1.open_slice (by simp)
    rw [hvo] at e
    injection e with _ _ e3
    subst e3
    simp at q1
    exact ⟨by omega, q2⟩
  have hA0 : (0 : Int) ≤ (A.length : Int) + 1 := by omega
  have hA1 : (A.length : Int) + 1 ≤ (cap : Int) := by omega
  have hA2 : (A.length : Int) + 1 + 1 ≤ (cap : Int) := by omega
  obtain ⟨s3, hx3⟩ := s1.1.popS hvo1
  rw [hll] at s3 hx3
  have hgl1 : w1.heap.size ≠ g := by
    have := s0.out.1.box.lt; omega
  have bz3 : Box (w2.setCell ⟨g, 0, none⟩ (.slice (some ⟨go, 0, none⟩) (A.length + 1) cap)).drew w1.heap.size 189 [.int .i64 x1.kind, .string x1.name, .slice aa x1.attrs.length ca, .string x1.text, .slice ak x1.kids.length ck, .int .i64 (nx1 : Int)] := bz.far (p := ⟨g, 0, none⟩) hgl1 _
  have hx3 := RepV.mono hx3 (fun b hb => (⟨(grw_grw s1.2.1.size s3.2.1.size b).1 hb.1, hb.2⟩ : idleB (grw F w _) _ _ _ _ _ b))
  have s3' := s1.trans s3
  clear s3 bz
  replace s3' := Lib.hid s3'
  replace hx3 := Lib.hid hx3
  replace s1 := Lib.hid s1
  replace s0 := Lib.hid s0
  replace bz3 := Lib.hid bz3
  go_region
  obtain ⟨w3, hw3⟩ : ∃ W, (w2.setCell ⟨g, 0, none⟩ (.slice (some ⟨go, 0, none⟩) (A.length + 1) cap)).drew = W := ⟨_, rfl⟩
  rw [hw3] at s3' hx3 bz3 ⊢
  clear hw3 s1 k0 fg hs2 hb1
  have k3 := s3'.out.1.box.cell (i := 3) rfl
  have z0 := bz3.out.cell (i := 0) rfl
  have z1 := bz3.out.cell (i := 1) rfl
  have z2 := bz3.out.cell (i := 2) rfl
  have z3 := bz3.out.cell (i := 3) rfl
  have z4 := bz3.out.cell (i := 4) rfl
  have z5 := bz3.out.cell (i := 5) rfl
  have hnm1 : x1.name.size ≤ maxLen := by
    rw [hf1x.out]
    show f.x.name.size ≤ _
    unfold maxLen; omega
  have hkey : keyOf Tryz.prog 9 (.string x1.name) = some (keyN x1.name) := WideMaps.keyOf_string_mk Tryz.underlying9 (s := x1.name) hnm1
  have hn63 : n < maxLen := by unfold maxLen; omega
  have hmb : mb < w1.heap.size := s0.out.1.role_lt (i := 1) rfl
  have hz3 : w1.heap.size < w3.heap.size := bz3.out.lt
  by_cases h0 : nx1 = 0
  · obtain ⟨w4, hrun, own4, turn4⟩ := s3'.out.1.drew.map.drop keySS Tryz.underlying191 hkey 0
    have hg4 : w3.grownBy w4 (some mb) := ⟨turn4.grown.os, turn4.grown.tape, turn4.grown.output, turn4.grown.size, turn4.grown.block⟩
    have s4 := s3'.out.trans (show BSt (grw F w w3) w3 g mb _ vt1 _ w4 _ vt1 pt1 _ [] n (D.del (keyN x1.name)) from (s3'.out.1.putm hg4 own4))
    have hx4 := (s3'.out.1.putm hg4 own4).2.2.rep hx3.out
    have bz4 := bz3.out.keep (hg4.block w1.heap.size hz3 (fun e => by cases e; omega))
    have hx4 := RepV.mono hx4 (fun b hb => (⟨(grw_grw s3'.out.2.1.size hg4.size b).1 hb.1, hb.2⟩ : idleB (grw F w w4) _ _ _ _ _ b))
    have hn4 : n ≤ n + 1 := by omega
    have hD : shutD f D = D.del (keyN x1.name) := by
      unfold shutD
      rw [if_pos (by rw [← hf1n.out]; exact h0), hf1x.out]; rfl
    subst h0
    replace s4 := Lib.hid s4
    replace hx4 := Lib.hid hx4
    replace bz4 := Lib.hid bz4
    replace hD := Lib.hid hD
    replace hf1n := Lib.hid hf1n
    clear own4 turn4 hg4 bz3 s3'
    go_wp2_with fail
    go_region
    clear z0 z1 z2 z3 z4 z5 k3 hrun
    have z0 := bz4.out.cell (i := 0) rfl
    have z1 := bz4.out.cell (i := 1) rfl
    have z2 := bz4.out.cell (i := 2) rfl
    have z3 := bz4.out.cell (i := 3) rfl
    have z4 := bz4.out.cell (i := 4) rfl
    go_wp2_with fail
    refine (bAdd s4.out.1 (by omega) (by omega) hx4.out).mono ?_
    rintro e w5 ⟨rfl, vt5, pt5, p', hp'x, hp'n, s5⟩
    have s6 := s4.out.trans s5
    replace s6 := Lib.hid s6
    clear s4 s5 hx4
    replace hp'x := Lib.hid hp'x
    replace hp'n := Lib.hid hp'n
    go_wp2_with fail
    go_end0
    exact ⟨rfl, _, _, _, p', _, by rw [hp'x.out, M7.endK_nil, List.append_nil, hf1x.out], hp'n.out, hn4, by rw [hD.out]; exact s6.out⟩
  · have hni : ((nx1 : Int) == 0) = false := beq_eq_false_iff_ne.2 (by omega)
    have hnw : (Lit.int .i64 (nx1 : Int)).wf = true := by
      have h2 : IntKind.i64.min = -9223372036854775808 := rfl
      have h3 : IntKind.i64.max = 9223372036854775807 := rfl
      have : nx1 = f.nx := hf1n.out
      simp only [Lit.wf, Bool.and_eq_true, decide_eq_true_eq, h2, h3]
      omega
    obtain ⟨w4, hrun, own4, turn4⟩ := s3'.out.1.drew.map.store keySS Tryz.underlying191 hn63 hkey (plainElem_int (H := Unit) Tryz.underlying3 hnw)
    have hg4 : w3.grownBy w4 (some mb) := ⟨turn4.grown.os, turn4.grown.tape, turn4.grown.output, turn4.grown.size, turn4.grown.block⟩
    have s4 := s3'.out.trans (show BSt (grw F w w3) w3 g mb _ vt1 _ w4 _ vt1 pt1 _ [] (n + 1) (D.put (keyN x1.name) (.lit (.int .i64 (nx1 : Int)))) from (s3'.out.1.putm hg4 own4))
    have hx4 := (s3'.out.1.putm hg4 own4).2.2.rep hx3.out
    have bz4 := bz3.out.keep (hg4.block w1.heap.size hz3 (fun e => by cases e; omega))
    have hx4 := RepV.mono hx4 (fun b hb => (⟨(grw_grw s3'.out.2.1.size hg4.size b).1 hb.1, hb.2⟩ : idleB (grw F w w4) _ _ _ _ _ b))
    have hn4 : n + 1 ≤ n + 1 := by omega
    have hD : shutD f D = D.put (keyN x1.name) (.lit (.int .i64 (nx1 : Int))) := by
      unfold shutD
      rw [if_neg (by rw [← hf1n.out]; exact h0), hf1x.out, ← hf1n.out]; rfl
    replace s4 := Lib.hid s4
    replace hx4 := Lib.hid hx4
    replace bz4 := Lib.hid bz4
    replace hD := Lib.hid hD
    replace hf1n := Lib.hid hf1n
    clear own4 turn4 hg4 bz3 s3'
    go_wp2_with fail
    go_region
    clear z0 z1 z2 z3 z4 z5 k3 hrun
    have z0 := bz4.out.cell (i := 0) rfl
    have z1 := bz4.out.cell (i := 1) rfl
    have z2 := bz4.out.cell (i := 2) rfl
    have z3 := bz4.out.cell (i := 3) rfl
    have z4 := bz4.out.cell (i := 4) rfl
    go_wp2_with fail
    refine (bAdd s4.out.1 (by omega) (by omega) hx4.out).mono ?_
    rintro e w5 ⟨rfl, vt5, pt5, p', hp'x, hp'n, s5⟩
    have s6 := s4.out.trans s5
    replace s6 := Lib.hid s6
    clear s4 s5 hx4
    replace hp'x := Lib.hid hp'x
    replace hp'n := Lib.hid hp'n
    go_wp2_with fail
    go_end0
    exact ⟨rfl, _, _, _, p', _, by rw [hp'x.out, M7.endK_nil, List.append_nil, hf1x.out], hp'n.out, hn4, by rw [hD.out]; exact s6.out⟩
end Go.Proofs.YteefodibpjgicaaGreat

/- Package build: which state of the document a builder stands for. No program in it. -/
namespace Go.Proofs.YteefodibpjgicaaGreat
open Go.RowKit Go.Maps
theorem M7.tr_split (A : List Nd) (x : Nd) (z : List Nd) : M7.tr (A ++ [x]) z = M7.tr (A ++ [M7.wk x []]) (x.kids ++ z) := by
  have h := M7.tr_in A (M7.wk x []) x.kids z
  have e : M7.wk (M7.wk x []) ((M7.wk x []).kids ++ x.kids) = x := by cases x; rfl
  rw [e] at h
  exact h
theorem M7.tr_kids (fs : List Nd) (z : List Nd) : ∀ f ∈ fs, f.kids.length ≤ M3.weight (M7.tr fs z) := by
  induction fs with
  | nil => intro f h; cases h
  | cons x r ih =>
    intro f hf
    cases r with
    | nil =>
      obtain rfl := List.mem_singleton.1 hf
      show _ ≤ M3.weight (f.kids ++ z)
      have := M3.length_le_weight f.kids
      rw [M3.weight_append]; omega
    | cons y r =>
      rw [M7.tr_cons, M3.weight_append, M3.weight_cons]
      rcases List.mem_cons.1 hf with rfl | hf
      · have := M3.length_le_weight f.kids
        omega
      · have := ih f hf
        show _ ≤ M3.weight x.kids + (1 + (M7.el y (M7.tr (y :: r) z)).attrs.length + M3.weight (M7.tr (y :: r) z) + M3.weight [])
        omega

theorem M7.tr_fits (fs : List Nd) (z : List Nd) : ∀ j f, fs[j]? = some f → M3.weight f.kids ≤ M3.weight (M7.tr fs z) ∧ (0 < j → f.attrs.length ≤ M3.weight (M7.tr fs z)) := by
  induction fs with
  | nil => intro j f h; simp at h
  | cons x r ih =>
    intro j f hf
    cases r with
    | nil =>
      cases j with
      | zero =>
        obtain rfl : x = f := by simpa using hf
        refine ⟨?_, fun h => absurd h (Nat.lt_irrefl _)⟩
        show _ ≤ M3.weight (x.kids ++ z)
        rw [M3.weight_append]; omega
      | succ j => simp at hf
    | cons y r =>
      rw [M7.tr_cons, M3.weight_append, M3.weight_cons]
      have e1 : (M7.el y (M7.tr (y :: r) z)).kids = M7.tr (y :: r) z := rfl
      have e2 : (M7.el y (M7.tr (y :: r) z)).attrs = y.attrs := rfl
      rw [e1, e2]
      cases j with
      | zero =>
        obtain rfl : x = f := by simpa using hf
        exact ⟨by omega, fun h => absurd h (Nat.lt_irrefl _)⟩
      | succ j =>
        have hf2 : (y :: r)[j]? = some f := by simpa using hf
        obtain ⟨q1, q2⟩ := ih j f hf2
        refine ⟨by omega, fun _ => ?_⟩
        cases j with
        | zero =>
          obtain rfl : y = f := by simpa using hf2
          omega
        | succ j =>
          have := q2 (by omega)
          omega
def namesW (fs : List FV) : List ByteArray := M7.namesF (fs.map FV.x)
theorem namesW_snoc {A : List FV} (h : A ≠ []) (f : FV) : namesW (A ++ [f]) = namesW A ++ [f.x.name] := by
  cases A with
  | nil => exact absurd rfl h
  | cons a A =>
    unfold namesW
    rw [List.map_append, List.map_cons, List.map_cons, List.map_nil, M7.names_snoc]
theorem namesW_last (A : List FV) (f f' : FV) (h : f'.x.name = f.x.name) : namesW (A ++ [f']) = namesW (A ++ [f]) := by
  unfold namesW M7.namesF
  rw [List.map_append, List.map_append]
  cases A with
  | nil => rfl
  | cons a A =>
    simp only [List.map_cons, List.cons_append, List.drop_succ_cons, List.drop_zero, List.map_append, List.map_nil]
    rw [h]
theorem namesW_len (fs : List FV) : (namesW fs).length = fs.length - 1 := by unfold namesW M7.namesF; simp

structure BInv (fs : List FV) (tx : List UInt8) (n : Nat) (D : DataW Unit) (s : M7.St) (q : Nat) : Prop where
  len : s.d + 1 = fs.length
  L : s.L = M7.tr (fs.map FV.x) (M7.endK tx)
  el : ∀ j f, fs[j + 1]? = some f → f.x.kind = 1 ∧ f.x.text = ⟨#[]⟩ ∧ f.x.name.size ≤ 1048576
  notx : ∀ A f, fs = A ++ [f] → M7.noTx f.x.kids
  nxt : ∀ j f, fs[j + 1]? = some f → f.nx = M7.plc (namesW fs) f.x.name j
  map : ∀ nm : ByteArray, Maps.has D (keyN nm) = decide (M7.plc (namesW fs) nm s.d ≠ 0) ∧ D.atKey (keyN nm) (.lit (.int .i64 0)) = .lit (.int .i64 (M7.plc (namesW fs) nm s.d : Int))
  fsq : fs.length ≤ q + 1
  nq : n + fs.length ≤ 2 * q + 1
  tq : tx.length ≤ q
  wq : M3.weight s.L ≤ q
  root : ∀ f, fs[0]? = some f → f.x.attrs = []

section
variable {fs A : List FV} {tx : List UInt8} {n q : Nat} {D : DataW Unit} {s : M7.St} {f p : FV}
theorem BInv.ne (h : BInv fs tx n D s q) : fs ≠ [] := fun e => by have := h.len; rw [e] at this; simp at this
theorem BInv.snoc (h : BInv fs tx n D s q) : ∃ A f, fs = A ++ [f] := by
  rcases List.eq_nil_or_concat fs with e | ⟨A, f, e⟩
  · exact absurd e h.ne
  · exact ⟨A, f, by rw [e, List.concat_eq_append]⟩
theorem BInv.d (h : BInv (A ++ [f]) tx n D s q) : s.d = A.length := by have := h.len; simp at this; exact this
theorem BInv.lx (h : BInv (A ++ [f]) tx n D s q) : s.L = M7.tr (A.map FV.x ++ [f.x]) (M7.endK tx) := by rw [h.L]; simp
theorem BInv.is (h : BInv (A ++ [f]) tx n D s q) : M7.okD s.d s.L ∧ M7.openN s.d s.L = namesW (A ++ [f]) ∧ M7.levelN s.d s.L = f.x.kids ++ M7.endK tx ∧ ∀ x, M7.putN s.d x s.L = M7.tr (A.map FV.x ++ [M7.wk f.x []]) (M3.push (f.x.kids ++ M7.endK tx) x) := by
  have := M7.tr_is (A.map FV.x) f.x (M7.endK tx)
  rw [h.lx, h.d]
  rw [List.length_map] at this
  obtain ⟨q1, q2, q3, q4⟩ := this
  exact ⟨q1, by rw [q2]; unfold namesW; simp, q3, q4⟩
theorem BInv.ok (h : BInv fs tx n D s q) : s.ok := by
  obtain ⟨A, f, rfl⟩ := h.snoc
  exact h.is.1
theorem BInv.names (h : BInv fs tx n D s q) : M7.openN s.d s.L = namesW fs := by
  obtain ⟨A, f, rfl⟩ := h.snoc
  exact h.is.2.1
theorem BInv.kids_le (h : BInv fs tx n D s q) : ∀ f ∈ fs, f.x.kids.length ≤ q := fun f hf => by
  have h1 := M7.tr_kids (fs.map FV.x) (M7.endK tx) f.x (List.mem_map_of_mem hf)
  rw [← h.L] at h1
  have := h.wq
  omega
theorem BInv.fits (h : BInv fs tx n D s q) : ∀ f ∈ fs, M3.weight f.x.kids ≤ q ∧ f.x.attrs.length ≤ q := fun f hf => by
  obtain ⟨j, hj⟩ := List.mem_iff_getElem?.1 hf
  have h1 := M7.tr_fits (fs.map FV.x) (M7.endK tx) j f.x (by rw [List.getElem?_map, hj]; rfl)
  rw [← h.L] at h1
  have := h.wq
  refine ⟨by omega, ?_⟩
  cases j with
  | zero => rw [h.root f hj]; simp
  | succ j => have := h1.2 (by omega); omega
theorem BInv.at_last (_h : BInv ((A ++ [p]) ++ [f]) tx n D s q) : ((A ++ [p]) ++ [f])[A.length + 1]? = some f := by
  rw [List.getElem?_append_right (by simp)]
  simp
theorem get_pre {A B : List FV} {j : Nat} {f : FV} (h : A[j]? = some f) : (A ++ B)[j]? = some f := by
  rw [List.getElem?_append_left (List.getElem?_eq_some_iff.1 h).1]; exact h
theorem get_snoc {A : List FV} {j : Nat} {f g : FV} (h : (A ++ [g])[j]? = some f) : A[j]? = some f ∨ (j = A.length ∧ f = g) := by
  rcases Nat.lt_or_ge j A.length with h1 | h1
  · rw [List.getElem?_append_left h1] at h; exact .inl h
  · rw [List.getElem?_append_right h1] at h
    have h2 := (List.getElem?_eq_some_iff.1 h).1
    simp at h2
    have e : j - A.length = 0 := by omega
    rw [e] at h
    simp at h
    exact .inr ⟨by omega, h.symm⟩
theorem keyN_ne {a b : ByteArray} (h : a.data.toList ≠ b.data.toList) : keyN a ≠ keyN b := fun e => by
  unfold keyN at e
  injection e with e
  exact h e

theorem keyN_is (s : ByteArray) : WideAt.IsKeyLit (keyN s) := trivial
/-- The innermost one shut. -/
theorem BInv.shut {p' : FV} {n' : Nat} (h : BInv ((A ++ [p]) ++ [f]) tx n D s q) (hm : IsMap D) (hx : p'.x = M7.wk p.x (p.x.kids ++ [M7.wk f.x (f.x.kids ++ M7.endK tx)])) (hn : p'.nx = p.nx) (hn' : n' ≤ n + 1) : BInv (A ++ [p']) [] n' (shutD f D) ⟨s.L, s.d - 1⟩ q ∧ namesW ((A ++ [p]) ++ [f]) = namesW (A ++ [p']) ++ [f.x.name] := by
  have hname : p'.x.name = p.x.name := by rw [hx]; rfl
  have hnm : namesW ((A ++ [p]) ++ [f]) = namesW (A ++ [p']) ++ [f.x.name] := by
    rw [namesW_snoc (by simp), namesW_last A p p' hname]
  have hd := h.d
  have hlp : (A ++ [p]).length = A.length + 1 := by simp
  have hle : (namesW (A ++ [p'])).length = A.length := by rw [namesW_len]; simp
  obtain ⟨hk1, hk2, hk3⟩ := h.el A.length f h.at_last
  have hroot : ∀ g, (A ++ [p'])[0]? = some g → g.x.attrs = [] := fun g hg => by
    rcases get_snoc hg with h1 | ⟨h1, h2⟩
    · exact h.root g (get_pre (get_pre h1))
    · subst h2
      rw [hx]
      exact h.root p (get_pre (by rw [h1, List.getElem?_append_right (Nat.le_refl _), Nat.sub_self]; rfl))
  refine ⟨⟨?_, ?_, ?_, ?_, ?_, ?_, ?_, ?_, ?_, h.wq, hroot⟩, hnm⟩
  · simp; omega
  · show s.L = _
    rw [h.lx, List.map_append, List.map_append, List.map_cons, List.map_nil, List.map_cons, List.map_nil, hx]
    have e : M7.wk f.x (f.x.kids ++ M7.endK tx) = M7.el f.x (f.x.kids ++ M7.endK tx) := by
      unfold M7.wk M7.el
      rw [hk1, hk2]
    rw [e, M7.endK_nil, M7.tr_shut, List.append_assoc]; rfl
  · intro j g hg
    rcases get_snoc hg with h1 | ⟨h1, h2⟩
    · exact h.el j g (get_pre (get_pre h1))
    · subst h2
      have := h.el j p (get_pre (by rw [h1, List.getElem?_append_right (Nat.le_refl _), Nat.sub_self]; rfl))
      rw [hx]
      exact this
  · intro B g e
    obtain ⟨rfl, e2⟩ := List.append_inj' e rfl
    have : p' = g := by simpa using e2
    subst this
    rw [hx]
    refine M7.noTx_snoc ?_
    show M3.isText f.x = false
    unfold M3.isText
    rw [hk1]; rfl
  · intro j g hg
    have hjl := (List.getElem?_eq_some_iff.1 hg).1
    simp at hjl
    have key : ∀ (u : FV), ((A ++ [p]) ++ [f])[j + 1]? = some u → u.nx = M7.plc (namesW (A ++ [p'])) u.x.name j := fun u hu => by
      have := h.nxt j u hu
      rw [hnm, M7.plc_pre _ _ _ _ (by omega)] at this
      exact this
    rcases get_snoc hg with h1 | ⟨h1, h2⟩
    · exact key g (get_pre (get_pre h1))
    · subst h2
      have := key p (get_pre (by rw [h1, List.getElem?_append_right (Nat.le_refl _), Nat.sub_self]; rfl))
      rw [hn, hname]
      exact this
  · intro nm
    show _ = decide (M7.plc _ nm (s.d - 1) ≠ 0) ∧ _
    have e1 : s.d - 1 = A.length := by omega
    have e2 : s.d = A.length + 1 := by omega
    obtain ⟨m1, m2⟩ := h.map nm
    have hnx : f.nx = M7.plc (namesW (A ++ [p'])) f.x.name A.length := by
      have := h.nxt A.length f h.at_last
      rw [hnm, M7.plc_pre _ _ _ _ (by omega)] at this
      exact this
    rw [hnm, e2, ← hle, M7.plc_snoc] at m1 m2
    rw [e1, ← hle]
    rw [← hle] at hnx
    by_cases he : f.x.name.data.toList = nm.data.toList
    · have hkk : keyN nm = keyN f.x.name := by unfold keyN; rw [he]
      have hpp : M7.plc (namesW (A ++ [p'])) nm (namesW (A ++ [p'])).length = f.nx := by
        rw [hnx]
        clear m1 m2 hnx
        generalize (namesW (A ++ [p'])).length = k
        induction k with
        | zero => rfl
        | succ k ih => rw [M7.plc, M7.plc, ih, he]
      rw [hpp, hkk]
      unfold shutD
      split
      · rename_i h0
        rw [h0]
        exact ⟨by rw [has_del_same]; rfl, by rw [atKey_del_same]; rfl⟩
      · rename_i h0
        exact ⟨by rw [has_put_same hm (keyN_is _)]; simp [h0], by rw [atKey_put_same hm (keyN_is _)]⟩
    · have hne : keyN nm ≠ keyN f.x.name := keyN_ne (fun e => he e.symm)
      rw [if_neg he] at m1 m2
      unfold shutD
      split
      · exact ⟨by rw [has_del_other hne]; exact m1, by rw [atKey_del_other hne]; exact m2⟩
      · exact ⟨by rw [has_put_other hne]; exact m1, by rw [atKey_put_other hne]; exact m2⟩
  · have := h.fsq
    simp at this ⊢; omega
  · have := h.nq
    simp at this ⊢; omega
  · simp

/-- One more node behind all there is. -/
theorem BInv.add {f' : FV} {x : Nd} {c : Nat} (h : BInv (A ++ [f]) tx n D s q) (hx : f'.x = M7.wk f.x (f.x.kids ++ M7.endK tx ++ [x])) (hn : f'.nx = f.nx) (ht : M3.isText x = false) (hw : M3.weight [x] ≤ c) (_h1c : 1 ≤ c) : BInv (A ++ [f']) [] n D ⟨M7.putN s.d x s.L, s.d⟩ (q + c) := by
  have hname : f'.x.name = f.x.name := by rw [hx]; rfl
  have hnm : namesW (A ++ [f']) = namesW (A ++ [f]) := namesW_last A f f' hname
  have hlen := h.len
  have hroot : ∀ g, (A ++ [f'])[0]? = some g → g.x.attrs = [] := fun g hg => by
    rcases get_snoc hg with h1 | ⟨h1, h2⟩
    · exact h.root g (get_pre h1)
    · subst h2
      rw [hx]
      exact h.root f (by rw [h1, List.getElem?_append_right (Nat.le_refl _), Nat.sub_self]; rfl)
  refine ⟨by simpa using hlen, ?_, ?_, ?_, ?_, ?_, ?_, ?_, by simp, ?_, hroot⟩
  · show M7.putN s.d x s.L = _
    rw [h.is.2.2.2 x, M7.push_node x ht, List.map_append, List.map_cons, List.map_nil, M7.tr_split _ f'.x, hx, M7.endK_nil]
    show _ = M7.tr (A.map FV.x ++ [M7.wk (M7.wk f.x _) []]) ((f.x.kids ++ M7.endK tx ++ [x]) ++ [])
    rw [List.append_nil, wk_wk]
  · intro j g hg
    rcases get_snoc hg with h1 | ⟨h1, h2⟩
    · exact h.el j g (get_pre h1)
    · subst h2
      have := h.el j f (by rw [h1, List.getElem?_append_right (Nat.le_refl _), Nat.sub_self]; rfl)
      rw [hx]; exact this
  · intro B g e
    obtain ⟨rfl, e2⟩ := List.append_inj' e rfl
    have : f' = g := by simpa using e2
    subst this
    rw [hx]
    exact M7.noTx_snoc ht
  · intro j g hg
    rw [hnm]
    rcases get_snoc hg with h1 | ⟨h1, h2⟩
    · exact h.nxt j g (get_pre h1)
    · subst h2
      rw [hn, hname]
      exact h.nxt j f (by rw [h1, List.getElem?_append_right (Nat.le_refl _), Nat.sub_self]; rfl)
  · intro nm
    rw [hnm]
    exact h.map nm
  · have := h.fsq; simp at this ⊢; omega
  · have := h.nq; simp at this ⊢; omega
  · have := M7.weight_put x h.is.1
    have := h.wq
    show M3.weight (M7.putN s.d x s.L) ≤ _
    omega

/-- More of the text that stands last. -/
theorem BInv.chars {t : Tok} {c : Nat} (h : BInv fs tx n D s q) (ht : 1 + t.text.size ≤ c) : BInv fs (tx ++ t.text.data.toList) n D ⟨M7.putN s.d (M7.txT t) s.L, s.d⟩ (q + c) := by
  obtain ⟨A, f, rfl⟩ := h.snoc
  refine ⟨h.len, ?_, h.el, h.notx, h.nxt, h.map, ?_, ?_, ?_, ?_, h.root⟩
  · show M7.putN s.d _ s.L = _
    rw [h.is.2.2.2, M7.push_more (h.notx A f rfl) tx t.text.data.toList (M7.txT t) (by unfold M7.txT; simp), List.map_append, List.map_cons, List.map_nil, M7.tr_split _ f.x]
  · have := h.fsq; omega
  · have := h.nq; omega
  · have := h.tq
    rw [List.length_append]
    have e : t.text.data.toList.length = t.text.size := rfl
    omega
  · have h1 := M7.weight_put (M7.txT t) h.is.1
    have h2 := h.wq
    have h3 : M3.weight [M7.txT t] = 1 := by rw [M3.weight_cons, M3.weight_nil]; show 1 + 0 + M3.weight [] + 0 = 1; rw [M3.weight_nil]
    show M3.weight (M7.putN s.d _ s.L) ≤ _
    omega

/-- One more open element. -/
theorem BInv.push {f' e : FV} {t : Tok} {n' c : Nat} (h : BInv (A ++ [f]) tx n D s q) (hm : IsMap D) (hx : f'.x = M7.wk f.x (f.x.kids ++ M7.endK tx)) (hn : f'.nx = f.nx) (he : e.x = M7.elT t) (hen : e.nx = M7.plc (namesW (A ++ [f])) t.name s.d) (hts : t.name.size ≤ 1048576) (hta : 1 + t.attrs.length ≤ c) (hn' : n' ≤ n + 1) :
    BInv ((A ++ [f']) ++ [e]) [] n' (D.put (keyN t.name) (.lit (.int .i64 ((A.length + 1 : Nat) : Int)))) ⟨M7.putN s.d (M7.elT t) s.L, s.d + 1⟩ (q + c) := by
  have hname : f'.x.name = f.x.name := by rw [hx]; rfl
  have hnm1 : namesW (A ++ [f']) = namesW (A ++ [f]) := namesW_last A f f' hname
  have hen2 : e.x.name = t.name := by rw [he]; rfl
  have hnm : namesW ((A ++ [f']) ++ [e]) = namesW (A ++ [f]) ++ [t.name] := by rw [namesW_snoc (by simp), hnm1, hen2]
  have hd := h.d
  have hle : (namesW (A ++ [f])).length = A.length := by rw [namesW_len]; simp
  have hw : M3.weight [M7.elT t] ≤ c := by
    rw [M3.weight_cons, M3.weight_nil]
    show 1 + t.attrs.length + M3.weight [] + 0 ≤ _
    rw [M3.weight_nil]; omega
  have hroot : ∀ g, ((A ++ [f']) ++ [e])[0]? = some g → g.x.attrs = [] := fun g hg => by
    rcases get_snoc hg with h1 | ⟨h1, h2⟩
    · rcases get_snoc h1 with h3 | ⟨h3, h4⟩
      · exact h.root g (get_pre h3)
      · subst h4
        rw [hx]
        exact h.root f (by rw [h3, List.getElem?_append_right (Nat.le_refl _), Nat.sub_self]; rfl)
    · simp at h1
  refine ⟨by simp; omega, ?_, ?_, ?_, ?_, ?_, ?_, ?_, by simp, ?_, hroot⟩
  · show M7.putN s.d _ s.L = _
    rw [h.is.2.2.2, M7.push_node _ (by rfl), List.map_append, List.map_append, List.map_cons, List.map_nil, List.map_cons, List.map_nil, List.append_assoc (A.map FV.x), M7.endK_nil]
    have e1 := M7.tr_shut (A.map FV.x) f'.x e.x []
    show _ = M7.tr (A.map FV.x ++ [f'.x, e.x]) []
    rw [← e1, M7.tr_split _ (M7.wk f'.x _), hx, he]
    show _ = M7.tr (A.map FV.x ++ [M7.wk (M7.wk (M7.wk f.x _) _) []]) (((f.x.kids ++ M7.endK tx) ++ [M7.el (M7.elT t) ([] ++ [])]) ++ [])
    rw [wk_wk, wk_wk]
    exact (congrArg (M7.tr _) (List.append_nil _)).symm
  · intro j g hg
    rcases get_snoc hg with h1 | ⟨h1, h2⟩
    · rcases get_snoc h1 with h3 | ⟨h3, h4⟩
      · exact h.el j g (get_pre h3)
      · subst h4
        have := h.el j f (by rw [h3, List.getElem?_append_right (Nat.le_refl _), Nat.sub_self]; rfl)
        rw [hx]; exact this
    · subst h2
      rw [he]
      exact ⟨rfl, rfl, hts⟩
  · intro B g eq
    obtain ⟨rfl, e2⟩ := List.append_inj' eq rfl
    have : e = g := by simpa using e2
    subst this
    rw [he]
    exact M7.noTx_nil
  · intro j g hg
    have hjl := (List.getElem?_eq_some_iff.1 hg).1
    simp at hjl
    rw [hnm, M7.plc_pre _ _ _ _ (by omega)]
    rcases get_snoc hg with h1 | ⟨h1, h2⟩
    · rcases get_snoc h1 with h3 | ⟨h3, h4⟩
      · exact h.nxt j g (get_pre h3)
      · subst h4
        rw [hn, hname]
        exact h.nxt j f (by rw [h3, List.getElem?_append_right (Nat.le_refl _), Nat.sub_self]; rfl)
    · subst h2
      simp at h1
      rw [hen, hen2, hd, h1]
  · intro nm
    show _ = decide (M7.plc _ nm (s.d + 1) ≠ 0) ∧ _
    obtain ⟨m1, m2⟩ := h.map nm
    have e2 : s.d + 1 = (namesW (A ++ [f])).length + 1 := by omega
    have e3 : s.d = (namesW (A ++ [f])).length := by omega
    rw [hnm, e2, M7.plc_snoc]
    rw [e3] at m1 m2
    by_cases heq : t.name.data.toList = nm.data.toList
    · have hkk : keyN nm = keyN t.name := by unfold keyN; rw [heq]
      rw [if_pos heq, hkk, has_put_same hm (keyN_is _), atKey_put_same hm (keyN_is _), hle]
      exact ⟨by simp, rfl⟩
    · have hne : keyN nm ≠ keyN t.name := keyN_ne (fun e => heq e.symm)
      rw [if_neg heq, has_put_other hne, atKey_put_other hne]
      exact ⟨m1, m2⟩
  · have := h.fsq; simp at this ⊢; omega
  · have := h.nq; simp at this ⊢; omega
  · have h1 := M7.weight_put (M7.elT t) h.is.1
    have h2 := h.wq
    show M3.weight (M7.putN s.d _ s.L) ≤ _
    omega
end
end Go.Proofs.YteefodibpjgicaaGreat

/- Reference 6: what closes what; has; fits. -/
namespace Go.Proofs.YteefodibpjgicaaGreat
open Go.RowKit
theorem beq_flip (a b : List UInt8) : (a == b) = (b == a) := by
  rw [Bool.eq_iff_iff]; simp only [beq_iff_eq]; exact eq_comm

set_option maxHeartbeats 4000000 in
theorem ref06Closes (o b : ByteArray) (w : World) : Calls Tryz.prog 80 #[.string o, .string b] w fun e w' => e = .returned (.bool (M6.closesB o.data.toList b.data.toList)) ∧ Below w.heap.size w w' := by
  rw [← hasT_closed]
  have hl8 : (closedT o.data.toList).length ≤ 11 := by
    unfold closedT
    repeat' split
    all_goals decide
  obtain ⟨wo, rfl⟩ : ∃ wo : World, wo = w := ⟨_, rfl⟩
  by_cases h0 : o.data.toList = [112]
  · have e0 : (o.toList == [112]) = true := by rw [Lib.toList_data, h0]; rfl
    have hr : Txs (fun b => b < wo.heap.size + 1) (wo.alloc (.cells #[.string ⟨#[98, 108, 111, 99, 107, 113, 117, 111, 116, 101]⟩, .string ⟨#[100, 105, 118]⟩, .string ⟨#[104, 49]⟩, .string ⟨#[104, 50]⟩, .string ⟨#[104, 114]⟩, .string ⟨#[108, 105]⟩, .string ⟨#[111, 108]⟩, .string ⟨#[112]⟩, .string ⟨#[112, 114, 101]⟩, .string ⟨#[116, 97, 98, 108, 101]⟩, .string ⟨#[117, 108]⟩] 9)) (.slice (some ⟨wo.heap.size, 0, none⟩) 11 11) cl_p := txs_made (fun b => b < wo.heap.size + 1) wo 9 cl_p 11 rfl (by decide) (by omega)
    have hb0 := (Below.refl wo.heap.size wo).alloc (Nat.le_refl _) (.cells #[.string ⟨#[98, 108, 111, 99, 107, 113, 117, 111, 116, 101]⟩, .string ⟨#[100, 105, 118]⟩, .string ⟨#[104, 49]⟩, .string ⟨#[104, 50]⟩, .string ⟨#[104, 114]⟩, .string ⟨#[108, 105]⟩, .string ⟨#[111, 108]⟩, .string ⟨#[112]⟩, .string ⟨#[112, 114, 101]⟩, .string ⟨#[116, 97, 98, 108, 101]⟩, .string ⟨#[117, 108]⟩] 9)
    have hcl : closedT o.data.toList = cl_p := by rw [h0]; rfl
    rw [← hcl] at hr
    clear hcl h0
    generalize closedT o.data.toList = l at *
    have hn : Hid (11 = l.length) := Lib.hid (Row.len hr).1
    have h0 : Hid (hasT b l = hasT b (l.drop 0)) := rfl
    replace hb0 := Lib.hid hb0
    go_enter Tryz.func80, Tryz.ntmps80
    go_wp2_with fail
    obtain ⟨W, hW⟩ : ∃ W, wo.alloc (.cells #[.string ⟨#[98, 108, 111, 99, 107, 113, 117, 111, 116, 101]⟩, .string ⟨#[100, 105, 118]⟩, .string ⟨#[104, 49]⟩, .string ⟨#[104, 50]⟩, .string ⟨#[104, 114]⟩, .string ⟨#[108, 105]⟩, .string ⟨#[111, 108]⟩, .string ⟨#[112]⟩, .string ⟨#[112, 114, 101]⟩, .string ⟨#[116, 97, 98, 108, 101]⟩, .string ⟨#[117, 108]⟩] 9) = W := ⟨_, rfl⟩
    rw [hW] at hr hb0 ⊢
    clear hW
    go_loopw [6] (fun u6 wr => W = wr ∧ ∃ i : Nat, i ≤ 11 ∧ u6 = .int .i64 (i : Int) ∧ Hid (hasT b l = hasT b (l.drop i))) (fun u6 _ => 11 - (intOf u6).toNat)
    case atStart => exact ⟨rfl, 0, by omega, rfl, h0⟩
    case round =>
      obtain ⟨rfl, i, hi, rfl, hv⟩ := hrel
      by_cases hlt : i < 11
      · have hl2 : i < l.length := by have := hn.out; omega
        obtain ⟨g, off, ea, _, c0⟩ := Row.atS hr i hl2
        cases ea
        simp only [Nat.zero_add] at c0
        have hd := hv.out.trans (hasT_drop b l i hl2)
        clear hv
        rw [beq_flip] at hd
        cases ht : (l[i].toList == b.toList)
        · rw [ht, Bool.false_or] at hd
          replace hd := Lib.hid hd
          generalize l[i] = t at *
          go_wp2_with fail
          go_roundw
          case rel => exact ⟨trivial, i + 1, by omega, by go_num, hd⟩
          case measure => exact meas_nat hlt
        · rw [ht, Bool.true_or] at hd
          replace hd := Lib.hid hd
          generalize l[i] = t at *
          go_wp2_with fail
          go_ret
          exact ⟨by rw [hd.out]; rfl, hb0.out⟩
      · obtain rfl : i = 11 := by omega
        have hd := hv.out
        rw [List.drop_of_length_le (by have := hn.out; omega)] at hd
        replace hd := Lib.hid hd
        clear hv
        go_wp2_with fail
        go_ret
        exact ⟨by rw [hd.out]; rfl, hb0.out⟩
  have e0 : (o.toList == [112]) = false := by rw [Lib.toList_data, beq_eq_false_iff_ne]; exact h0
  by_cases h1 : o.data.toList = [108, 105]
  · have e1 : (o.toList == [108, 105]) = true := by rw [Lib.toList_data, h1]; rfl
    have hr : Txs (fun b => b < wo.heap.size + 1) (wo.alloc (.cells #[.string ⟨#[108, 105]⟩] 9)) (.slice (some ⟨wo.heap.size, 0, none⟩) 1 1) cl_li := txs_made (fun b => b < wo.heap.size + 1) wo 9 cl_li 1 rfl (by decide) (by omega)
    have hb0 := (Below.refl wo.heap.size wo).alloc (Nat.le_refl _) (.cells #[.string ⟨#[108, 105]⟩] 9)
    have hcl : closedT o.data.toList = cl_li := by rw [h1]; rfl
    rw [← hcl] at hr
    clear hcl h1
    generalize closedT o.data.toList = l at *
    have hn : Hid (1 = l.length) := Lib.hid (Row.len hr).1
    have h0 : Hid (hasT b l = hasT b (l.drop 0)) := rfl
    replace hb0 := Lib.hid hb0
    go_enter Tryz.func80, Tryz.ntmps80
    go_wp2_with fail
    obtain ⟨W, hW⟩ : ∃ W, wo.alloc (.cells #[.string ⟨#[108, 105]⟩] 9) = W := ⟨_, rfl⟩
    rw [hW] at hr hb0 ⊢
    clear hW
    go_loopw [6] (fun u6 wr => W = wr ∧ ∃ i : Nat, i ≤ 1 ∧ u6 = .int .i64 (i : Int) ∧ Hid (hasT b l = hasT b (l.drop i))) (fun u6 _ => 1 - (intOf u6).toNat)
    case atStart => exact ⟨rfl, 0, by omega, rfl, h0⟩
    case round =>
      obtain ⟨rfl, i, hi, rfl, hv⟩ := hrel
      by_cases hlt : i < 1
      · have hl2 : i < l.length := by have := hn.out; omega
        obtain ⟨g, off, ea, _, c0⟩ := Row.atS hr i hl2
        cases ea
        simp only [Nat.zero_add] at c0
        have hd := hv.out.trans (hasT_drop b l i hl2)
        clear hv
        rw [beq_flip] at hd
        cases ht : (l[i].toList == b.toList)
        · rw [ht, Bool.false_or] at hd
          replace hd := Lib.hid hd
          generalize l[i] = t at *
          go_wp2_with fail
          go_roundw
          case rel => exact ⟨trivial, i + 1, by omega, by go_num, hd⟩
          case measure => exact meas_nat hlt
        · rw [ht, Bool.true_or] at hd
          replace hd := Lib.hid hd
          generalize l[i] = t at *
          go_wp2_with fail
          go_ret
          exact ⟨by rw [hd.out]; rfl, hb0.out⟩
      · obtain rfl : i = 1 := by omega
        have hd := hv.out
        rw [List.drop_of_length_le (by have := hn.out; omega)] at hd
        replace hd := Lib.hid hd
        clear hv
        go_wp2_with fail
        go_ret
        exact ⟨by rw [hd.out]; rfl, hb0.out⟩
  have e1 : (o.toList == [108, 105]) = false := by rw [Lib.toList_data, beq_eq_false_iff_ne]; exact h1
  by_cases h2 : o.data.toList = [100, 116]
  · have e2 : (o.toList == [100, 116]) = true := by rw [Lib.toList_data, h2]; rfl
    have hr : Txs (fun b => b < wo.heap.size + 1) (wo.alloc (.cells #[.string ⟨#[100, 100]⟩, .string ⟨#[100, 116]⟩] 9)) (.slice (some ⟨wo.heap.size, 0, none⟩) 2 2) cl_dt := txs_made (fun b => b < wo.heap.size + 1) wo 9 cl_dt 2 rfl (by decide) (by omega)
    have hb0 := (Below.refl wo.heap.size wo).alloc (Nat.le_refl _) (.cells #[.string ⟨#[100, 100]⟩, .string ⟨#[100, 116]⟩] 9)
    have hcl : closedT o.data.toList = cl_dt := by rw [h2]; rfl
    rw [← hcl] at hr
    clear hcl h2
    generalize closedT o.data.toList = l at *
    have hn : Hid (2 = l.length) := Lib.hid (Row.len hr).1
    have h0 : Hid (hasT b l = hasT b (l.drop 0)) := rfl
    replace hb0 := Lib.hid hb0
    go_enter Tryz.func80, Tryz.ntmps80
    go_wp2_with fail
    obtain ⟨W, hW⟩ : ∃ W, wo.alloc (.cells #[.string ⟨#[100, 100]⟩, .string ⟨#[100, 116]⟩] 9) = W := ⟨_, rfl⟩
    rw [hW] at hr hb0 ⊢
    clear hW
    go_loopw [6] (fun u6 wr => W = wr ∧ ∃ i : Nat, i ≤ 2 ∧ u6 = .int .i64 (i : Int) ∧ Hid (hasT b l = hasT b (l.drop i))) (fun u6 _ => 2 - (intOf u6).toNat)
    case atStart => exact ⟨rfl, 0, by omega, rfl, h0⟩
    case round =>
      obtain ⟨rfl, i, hi, rfl, hv⟩ := hrel
      by_cases hlt : i < 2
      · have hl2 : i < l.length := by have := hn.out; omega
        obtain ⟨g, off, ea, _, c0⟩ := Row.atS hr i hl2
        cases ea
        simp only [Nat.zero_add] at c0
        have hd := hv.out.trans (hasT_drop b l i hl2)
        clear hv
        rw [beq_flip] at hd
        cases ht : (l[i].toList == b.toList)
        · rw [ht, Bool.false_or] at hd
          replace hd := Lib.hid hd
          generalize l[i] = t at *
          go_wp2_with fail
          go_roundw
          case rel => exact ⟨trivial, i + 1, by omega, by go_num, hd⟩
          case measure => exact meas_nat hlt
        · rw [ht, Bool.true_or] at hd
          replace hd := Lib.hid hd
          generalize l[i] = t at *
          go_wp2_with fail
          go_ret
          exact ⟨by rw [hd.out]; rfl, hb0.out⟩
      · obtain rfl : i = 2 := by omega
        have hd := hv.out
        rw [List.drop_of_length_le (by have := hn.out; omega)] at hd
        replace hd := Lib.hid hd
        clear hv
        go_wp2_with fail
        go_ret
        exact ⟨by rw [hd.out]; rfl, hb0.out⟩
  have e2 : (o.toList == [100, 116]) = false := by rw [Lib.toList_data, beq_eq_false_iff_ne]; exact h2
  by_cases h3 : o.data.toList = [100, 100]
  · have e3 : (o.toList == [100, 100]) = true := by rw [Lib.toList_data, h3]; rfl
    have hr : Txs (fun b => b < wo.heap.size + 1) (wo.alloc (.cells #[.string ⟨#[100, 100]⟩, .string ⟨#[100, 116]⟩] 9)) (.slice (some ⟨wo.heap.size, 0, none⟩) 2 2) cl_dd := txs_made (fun b => b < wo.heap.size + 1) wo 9 cl_dd 2 rfl (by decide) (by omega)
    have hb0 := (Below.refl wo.heap.size wo).alloc (Nat.le_refl _) (.cells #[.string ⟨#[100, 100]⟩, .string ⟨#[100, 116]⟩] 9)
    have hcl : closedT o.data.toList = cl_dd := by rw [h3]; rfl
    rw [← hcl] at hr
    clear hcl h3
    generalize closedT o.data.toList = l at *
    have hn : Hid (2 = l.length) := Lib.hid (Row.len hr).1
    have h0 : Hid (hasT b l = hasT b (l.drop 0)) := rfl
    replace hb0 := Lib.hid hb0
    go_enter Tryz.func80, Tryz.ntmps80
    go_wp2_with fail
    obtain ⟨W, hW⟩ : ∃ W, wo.alloc (.cells #[.string ⟨#[100, 100]⟩, .string ⟨#[100, 116]⟩] 9) = W := ⟨_, rfl⟩
    rw [hW] at hr hb0 ⊢
    clear hW
    go_loopw [6] (fun u6 wr => W = wr ∧ ∃ i : Nat, i ≤ 2 ∧ u6 = .int .i64 (i : Int) ∧ Hid (hasT b l = hasT b (l.drop i))) (fun u6 _ => 2 - (intOf u6).toNat)
    case atStart => exact ⟨rfl, 0, by omega, rfl, h0⟩
    case round =>
      obtain ⟨rfl, i, hi, rfl, hv⟩ := hrel
      by_cases hlt : i < 2
      · have hl2 : i < l.length := by have := hn.out; omega
        obtain ⟨g, off, ea, _, c0⟩ := Row.atS hr i hl2
        cases ea
        simp only [Nat.zero_add] at c0
        have hd := hv.out.trans (hasT_drop b l i hl2)
        clear hv
        rw [beq_flip] at hd
        cases ht : (l[i].toList == b.toList)
        · rw [ht, Bool.false_or] at hd
          replace hd := Lib.hid hd
          generalize l[i] = t at *
          go_wp2_with fail
          go_roundw
          case rel => exact ⟨trivial, i + 1, by omega, by go_num, hd⟩
          case measure => exact meas_nat hlt
        · rw [ht, Bool.true_or] at hd
          replace hd := Lib.hid hd
          generalize l[i] = t at *
          go_wp2_with fail
          go_ret
          exact ⟨by rw [hd.out]; rfl, hb0.out⟩
      · obtain rfl : i = 2 := by omega
        have hd := hv.out
        rw [List.drop_of_length_le (by have := hn.out; omega)] at hd
        replace hd := Lib.hid hd
        clear hv
        go_wp2_with fail
        go_ret
        exact ⟨by rw [hd.out]; rfl, hb0.out⟩
  have e3 : (o.toList == [100, 100]) = false := by rw [Lib.toList_data, beq_eq_false_iff_ne]; exact h3
  by_cases h4 : o.data.toList = [111, 112, 116, 105, 111, 110]
  · have e4 : (o.toList == [111, 112, 116, 105, 111, 110]) = true := by rw [Lib.toList_data, h4]; rfl
    have hr : Txs (fun b => b < wo.heap.size + 1) (wo.alloc (.cells #[.string ⟨#[111, 112, 116, 105, 111, 110]⟩] 9)) (.slice (some ⟨wo.heap.size, 0, none⟩) 1 1) cl_option := txs_made (fun b => b < wo.heap.size + 1) wo 9 cl_option 1 rfl (by decide) (by omega)
    have hb0 := (Below.refl wo.heap.size wo).alloc (Nat.le_refl _) (.cells #[.string ⟨#[111, 112, 116, 105, 111, 110]⟩] 9)
    have hcl : closedT o.data.toList = cl_option := by rw [h4]; rfl
    rw [← hcl] at hr
    clear hcl h4
    generalize closedT o.data.toList = l at *
    have hn : Hid (1 = l.length) := Lib.hid (Row.len hr).1
    have h0 : Hid (hasT b l = hasT b (l.drop 0)) := rfl
    replace hb0 := Lib.hid hb0
    go_enter Tryz.func80, Tryz.ntmps80
    go_wp2_with fail
    obtain ⟨W, hW⟩ : ∃ W, wo.alloc (.cells #[.string ⟨#[111, 112, 116, 105, 111, 110]⟩] 9) = W := ⟨_, rfl⟩
    rw [hW] at hr hb0 ⊢
    clear hW
    go_loopw [6] (fun u6 wr => W = wr ∧ ∃ i : Nat, i ≤ 1 ∧ u6 = .int .i64 (i : Int) ∧ Hid (hasT b l = hasT b (l.drop i))) (fun u6 _ => 1 - (intOf u6).toNat)
    case atStart => exact ⟨rfl, 0, by omega, rfl, h0⟩
    case round =>
      obtain ⟨rfl, i, hi, rfl, hv⟩ := hrel
      by_cases hlt : i < 1
      · have hl2 : i < l.length := by have := hn.out; omega
        obtain ⟨g, off, ea, _, c0⟩ := Row.atS hr i hl2
        cases ea
        simp only [Nat.zero_add] at c0
        have hd := hv.out.trans (hasT_drop b l i hl2)
        clear hv
        rw [beq_flip] at hd
        cases ht : (l[i].toList == b.toList)
        · rw [ht, Bool.false_or] at hd
          replace hd := Lib.hid hd
          generalize l[i] = t at *
          go_wp2_with fail
          go_roundw
          case rel => exact ⟨trivial, i + 1, by omega, by go_num, hd⟩
          case measure => exact meas_nat hlt
        · rw [ht, Bool.true_or] at hd
          replace hd := Lib.hid hd
          generalize l[i] = t at *
          go_wp2_with fail
          go_ret
          exact ⟨by rw [hd.out]; rfl, hb0.out⟩
      · obtain rfl : i = 1 := by omega
        have hd := hv.out
        rw [List.drop_of_length_le (by have := hn.out; omega)] at hd
        replace hd := Lib.hid hd
        clear hv
        go_wp2_with fail
        go_ret
        exact ⟨by rw [hd.out]; rfl, hb0.out⟩
  have e4 : (o.toList == [111, 112, 116, 105, 111, 110]) = false := by rw [Lib.toList_data, beq_eq_false_iff_ne]; exact h4
  by_cases h5 : o.data.toList = [116, 100]
  · have e5 : (o.toList == [116, 100]) = true := by rw [Lib.toList_data, h5]; rfl
    have hr : Txs (fun b => b < wo.heap.size + 1) (wo.alloc (.cells #[.string ⟨#[116, 100]⟩, .string ⟨#[116, 114]⟩] 9)) (.slice (some ⟨wo.heap.size, 0, none⟩) 2 2) cl_td := txs_made (fun b => b < wo.heap.size + 1) wo 9 cl_td 2 rfl (by decide) (by omega)
    have hb0 := (Below.refl wo.heap.size wo).alloc (Nat.le_refl _) (.cells #[.string ⟨#[116, 100]⟩, .string ⟨#[116, 114]⟩] 9)
    have hcl : closedT o.data.toList = cl_td := by rw [h5]; rfl
    rw [← hcl] at hr
    clear hcl h5
    generalize closedT o.data.toList = l at *
    have hn : Hid (2 = l.length) := Lib.hid (Row.len hr).1
    have h0 : Hid (hasT b l = hasT b (l.drop 0)) := rfl
    replace hb0 := Lib.hid hb0
    go_enter Tryz.func80, Tryz.ntmps80
    go_wp2_with fail
    obtain ⟨W, hW⟩ : ∃ W, wo.alloc (.cells #[.string ⟨#[116, 100]⟩, .string ⟨#[116, 114]⟩] 9) = W := ⟨_, rfl⟩
    rw [hW] at hr hb0 ⊢
    clear hW
    go_loopw [6] (fun u6 wr => W = wr ∧ ∃ i : Nat, i ≤ 2 ∧ u6 = .int .i64 (i : Int) ∧ Hid (hasT b l = hasT b (l.drop i))) (fun u6 _ => 2 - (intOf u6).toNat)
    case atStart => exact ⟨rfl, 0, by omega, rfl, h0⟩
    case round =>
      obtain ⟨rfl, i, hi, rfl, hv⟩ := hrel
      by_cases hlt : i < 2
      · have hl2 : i < l.length := by have := hn.out; omega
        obtain ⟨g, off, ea, _, c0⟩ := Row.atS hr i hl2
        cases ea
        simp only [Nat.zero_add] at c0
        have hd := hv.out.trans (hasT_drop b l i hl2)
        clear hv
        rw [beq_flip] at hd
        cases ht : (l[i].toList == b.toList)
        · rw [ht, Bool.false_or] at hd
          replace hd := Lib.hid hd
          generalize l[i] = t at *
          go_wp2_with fail
          go_roundw
          case rel => exact ⟨trivial, i + 1, by omega, by go_num, hd⟩
          case measure => exact meas_nat hlt
        · rw [ht, Bool.true_or] at hd
          replace hd := Lib.hid hd
          generalize l[i] = t at *
          go_wp2_with fail
          go_ret
          exact ⟨by rw [hd.out]; rfl, hb0.out⟩
      · obtain rfl : i = 2 := by omega
        have hd := hv.out
        rw [List.drop_of_length_le (by have := hn.out; omega)] at hd
        replace hd := Lib.hid hd
        clear hv
        go_wp2_with fail
        go_ret
        exact ⟨by rw [hd.out]; rfl, hb0.out⟩
  have e5 : (o.toList == [116, 100]) = false := by rw [Lib.toList_data, beq_eq_false_iff_ne]; exact h5
  by_cases h6 : o.data.toList = [116, 114]
  · have e6 : (o.toList == [116, 114]) = true := by rw [Lib.toList_data, h6]; rfl
    have hr : Txs (fun b => b < wo.heap.size + 1) (wo.alloc (.cells #[.string ⟨#[116, 114]⟩] 9)) (.slice (some ⟨wo.heap.size, 0, none⟩) 1 1) cl_tr := txs_made (fun b => b < wo.heap.size + 1) wo 9 cl_tr 1 rfl (by decide) (by omega)
    have hb0 := (Below.refl wo.heap.size wo).alloc (Nat.le_refl _) (.cells #[.string ⟨#[116, 114]⟩] 9)
    have hcl : closedT o.data.toList = cl_tr := by rw [h6]; rfl
    rw [← hcl] at hr
    clear hcl h6
    generalize closedT o.data.toList = l at *
    have hn : Hid (1 = l.length) := Lib.hid (Row.len hr).1
    have h0 : Hid (hasT b l = hasT b (l.drop 0)) := rfl
    replace hb0 := Lib.hid hb0
    go_enter Tryz.func80, Tryz.ntmps80
    go_wp2_with fail
    obtain ⟨W, hW⟩ : ∃ W, wo.alloc (.cells #[.string ⟨#[116, 114]⟩] 9) = W := ⟨_, rfl⟩
    rw [hW] at hr hb0 ⊢
    clear hW
    go_loopw [6] (fun u6 wr => W = wr ∧ ∃ i : Nat, i ≤ 1 ∧ u6 = .int .i64 (i : Int) ∧ Hid (hasT b l = hasT b (l.drop i))) (fun u6 _ => 1 - (intOf u6).toNat)
    case atStart => exact ⟨rfl, 0, by omega, rfl, h0⟩
    case round =>
      obtain ⟨rfl, i, hi, rfl, hv⟩ := hrel
      by_cases hlt : i < 1
      · have hl2 : i < l.length := by have := hn.out; omega
        obtain ⟨g, off, ea, _, c0⟩ := Row.atS hr i hl2
        cases ea
        simp only [Nat.zero_add] at c0
        have hd := hv.out.trans (hasT_drop b l i hl2)
        clear hv
        rw [beq_flip] at hd
        cases ht : (l[i].toList == b.toList)
        · rw [ht, Bool.false_or] at hd
          replace hd := Lib.hid hd
          generalize l[i] = t at *
          go_wp2_with fail
          go_roundw
          case rel => exact ⟨trivial, i + 1, by omega, by go_num, hd⟩
          case measure => exact meas_nat hlt
        · rw [ht, Bool.true_or] at hd
          replace hd := Lib.hid hd
          generalize l[i] = t at *
          go_wp2_with fail
          go_ret
          exact ⟨by rw [hd.out]; rfl, hb0.out⟩
      · obtain rfl : i = 1 := by omega
        have hd := hv.out
        rw [List.drop_of_length_le (by have := hn.out; omega)] at hd
        replace hd := Lib.hid hd
        clear hv
        go_wp2_with fail
        go_ret
        exact ⟨by rw [hd.out]; rfl, hb0.out⟩
  have e6 : (o.toList == [116, 114]) = false := by rw [Lib.toList_data, beq_eq_false_iff_ne]; exact h6
  have hcl : closedT o.data.toList = [] := by unfold closedT; rw [if_neg h0, if_neg h1, if_neg h2, if_neg h3, if_neg h4, if_neg h5, if_neg h6]
  rw [hcl]
  clear hcl hl8 h0 h1 h2 h3 h4 h5 h6
  go_enter Tryz.func80, Tryz.ntmps80
  go_wp2_with fail
  go_loopw [6] (fun u6 wr => wo = wr ∧ u6 = .int .i64 0) (fun u6 _ => 0)
  case atStart => exact ⟨rfl, rfl⟩
  case round =>
    obtain ⟨rfl, rfl⟩ := hrel
    go_wp2_with fail
    go_ret
    exact ⟨rfl, Below.refl _ _⟩
end Go.Proofs.YteefodibpjgicaaGreat

/- Reference 7: open elements, and how many nodes stand at a path's end. -/
namespace Go.Proofs.YteefodibpjgicaaGreat
open Go.RowKit
/-- The slice v reads in w as the numbers l. -/
def Ints (S : Nat → Prop) (w : World) (v : Value) (l : List Nat) : Prop := Row S w 1 v l.length (l.map fun k : Nat => Value.int .i64 (k : Int))

theorem Ints.at_ {S : Nat → Prop} {w : World} {a : Option Addr} {n cap : Nat} {l : List Nat} (h : Ints S w (.slice a n cap) l) (i k : Nat) (hk : l[i]? = some k) :
    ∃ b off, a = some ⟨b, off, none⟩ ∧ S b ∧ w.cell? ⟨b, off + i, none⟩ = some (.int .i64 (k : Int)) := by
  obtain ⟨h0, a', cap', h1, h2, h3, h4, h5⟩ := h
  cases h1
  have hi := (List.getElem?_eq_some_iff.1 hk).1
  obtain ⟨b, off, rfl, h7, h8⟩ := h5 (by omega)
  exact ⟨b, off, rfl, h7, h8 i _ (by rw [List.getElem?_map, hk]; rfl)⟩

theorem Ints.below {S : Nat → Prop} {w w' : World} {v : Value} {l : List Nat} (h : Ints S w v l) (hS : ∀ b, S b → b < w.heap.size) (hb : Below w.heap.size w w') : Ints S w' v l := Row.keep h (fun b h => hb.block b (hS b h))

end Go.Proofs.YteefodibpjgicaaGreat

/- One node of a row, as a slice of its own; a row without its first element. -/
namespace Go.Proofs.YteefodibpjgicaaGreat
open Go.RowKit
/-- One node of a list, as a list. -/
theorem RepN.sub {S : Nat → Prop} {w : World} {b off cap i : Nat} {x : Nd} {va vk : Value} (hS : S b) (hi : i < cap) (hcap : cap ≤ 9223372036854775807)
    (p0 : w.cell? ⟨b, off + i * 5, none⟩ = some (.int .i64 x.kind)) (p1 : w.cell? ⟨b, off + i * 5 + 1, none⟩ = some (.string x.name)) (p2 : w.cell? ⟨b, off + i * 5 + 2, none⟩ = some va) (p3 : w.cell? ⟨b, off + i * 5 + 3, none⟩ = some (.string x.text)) (p4 : w.cell? ⟨b, off + i * 5 + 4, none⟩ = some vk) (h : RepV S w x va vk) :
    RepN S w (.slice (some ⟨b, off + i * 5, none⟩) 1 (cap - i)) [x] := by
  refine ⟨x.cells va vk, ⟨rfl, some ⟨b, off + i * 5, none⟩, cap - i, rfl, by show 1 ≤ cap - i; omega, by omega, (fun h => by cases h), fun _ => ⟨b, off + i * 5, rfl, hS, fun j u hu => ?_⟩⟩, RepC.single h⟩
  match j, hu with
  | 0, hu => cases hu; exact p0
  | 1, hu => cases hu; exact p1
  | 2, hu => cases hu; exact p2
  | 3, hu => cases hu; exact p3
  | 4, hu => cases hu; exact p4
  | j + 5, hu => simp at hu

end Go.Proofs.YteefodibpjgicaaGreat

/- Reference 7: one more node at a path's end. -/
namespace Go.Proofs.YteefodibpjgicaaGreat
open Go.RowKit
/-- 'append(s, y...)' onto a row that the call owns, k cells an element. -/
theorem wpList_spread {P : Program} {ops : Array Oper} {rest : List Oper} {o : Oper} {a : Act} {Q : Exit → Act → World → Prop} (w1 : World) (k : Nat) (S : Nat → Prop) (hgd : o.guard = none) (s y : Operand) (t e : TypeId)
    (ho : o.op = .call { callee := .builtin .append, args := #[s, y], argTypes := #[t, t] }) (base : Nat) {z : Value} {bytes : Nat} (ht : P.underlying t = some (.slice e))
    (hinfo : (P.info? e).map (fun i => (i.zero, i.size, i.bytes)) = some (some z, k, bytes)) (hz : z.cells.size = k) (hk : 0 < k)
    (v : Value) (n : Nat) (xs : List Value) (hs : a.eval s = v) (hown : w1.ownsRow base e k v n xs) (yv : Value) (m : Nat) (ys : List Value) (hy : a.eval y = yv) (hx : Row S w1 k yv m ys) (h1 : ∀ u ∈ ys, u.oneCell' = true)
    (h63 : n + m ≤ 9223372036854775807) (hbytes : (n + m) * bytes ≤ 140737488355328) (hbase : base ≤ w1.heap.size)
    (h : ∀ v' w2, w2.ownsRow base e k v' (n + m) (xs ++ ys) → w1.grownBy w2 v.ownBlock → wpList P ops Q rest (a.put o.dst v') w2) : wpList P ops Q (o :: rest) a w1 := by
  obtain ⟨i, hi, hz0, hz1, hz2⟩ := info_parts hinfo
  obtain ⟨hl, ad, cap, rfl, h2, h3, h4, h5⟩ := hx
  cases ad with
  | none =>
    have h6 := h4 rfl
    obtain rfl : m = 0 := by omega
    have h7 : ys = [] := List.eq_nil_of_length_eq_zero (by omega)
    subst h7
    subst h6
    refine wpList_append_own_none hgd s y t ho base e i k ht hi v n xs hs hown hy ?_
    exact h v w1 (by simpa using hown) ⟨rfl, rfl, rfl, Nat.le_refl _, fun _ _ _ => rfl⟩
  | some ad =>
    refine wpList_append_own _ hgd s y t ho base e i z k bytes ht hi hz0 hz1 hz2 hz hk v n xs hs hown ad m cap ys hy hl ?_ h1 (by unfold maxLen; omega) hbytes hbase ?_
    · intro j u hj
      have hj' := (List.getElem?_eq_some_iff.1 hj).1
      have hm : 0 < m := by
        rcases Nat.eq_zero_or_pos m with e | e
        · subst e; omega
        · exact e
      obtain ⟨b, off, h6, _, h8⟩ := h5 hm
      cases h6
      rw [add_plain']
      exact h8 j u hj
    · intro v' w2 h8 h9 _
      exact h v' w2 h8 h9

/-- A call, and a store of its answer, in whatever order the rest stands. -/
def StJ (S : Nat → Prop) (w0 : World) (g off c n : Nat) (l : List Nd) (f : Nat → Bool) (t : Nat → Value) (W : World) : Prop :=
  (f n = false → Below w0.heap.size w0 W ∧ (f c = true → RepN (fun b => S b ∨ (w0.heap.size ≤ b ∧ b < W.heap.size)) W (t c) l)) ∧
  (f n = true → (∀ j, j < c + 1 → f j = true) ∧ ∃ W0, Below w0.heap.size w0 W0 ∧ RepN (fun b => S b ∨ (w0.heap.size ≤ b ∧ b < W0.heap.size)) W0 (t c) l ∧ W = W0.setCell ⟨g, off, none⟩ (t c))

section
variable {S : Nat → Prop} {w0 W : World} {g off c n : Nat} {l : List Nd} {f : Nat → Bool} {t : Nat → Value}
theorem StJ.start (S : Nat → Prop) (w0 : World) (g off c n : Nat) (l : List Nd) (t : Nat → Value) (hc : c < n) : StJ S w0 g off c n l (fun j => decide (n + 1 ≤ j)) t w0.drew :=
  ⟨fun _ => ⟨(Below.refl _ w0).drew, fun h => by simp at h; omega⟩, fun h => by simp at h; omega⟩

theorem StJ.notlast (h : StJ S w0 g off c n l f t W) {j : Nat} (hj : j < c + 1 ∨ j = n) (hf : f j = false) : f n = false := by
  cases h10 : f n
  · rfl
  · rcases hj with hl | rfl
    · have := (h.2 h10).1 j hl
      rw [hf] at this
      cases this
    · rw [h10] at hf
      cases hf

theorem StJ.same (h : StJ S w0 g off c n l f t W) (j : Nat) (v : Value) (h1 : j ≠ c) (h2 : j ≠ n) : StJ S w0 g off c n l (updF f j) (updT t j v) W := by
  refine ⟨fun e => ?_, fun e => ?_⟩
  · rw [updF_ne f (Ne.symm h2)] at e
    rw [updF_ne f (Ne.symm h1), updT_ne _ _ (Ne.symm h1)]
    exact h.1 e
  · rw [updF_ne f (Ne.symm h2)] at e
    obtain ⟨e1, e2⟩ := h.2 e
    rw [updT_ne _ _ (Ne.symm h1)]
    exact ⟨fun k hk => by unfold updF; split; rfl; exact e1 k hk, e2⟩

theorem StJ.call (h : StJ S w0 g off c n l f t W) (hn : f n = false) (hc : c ≠ n) {W' : World} {v : Value} (hv : RepN (fun b => S b ∨ (W.heap.size ≤ b ∧ b < W'.heap.size)) W' v l) (hb : Below W.heap.size W W') : StJ S w0 g off c n l (updF f c) (updT t c v) W' := by
  obtain ⟨q1, _⟩ := h.1 hn
  have hz := q1.size
  refine ⟨fun _ => ⟨bt q1 hb, fun _ => ?_⟩, fun e => ?_⟩
  · rw [updT_same]
    refine hv.mono (fun b hb' => ?_)
    rcases hb' with hb' | hb'
    · exact Or.inl hb'
    · exact Or.inr ⟨by omega, hb'.2⟩
  · rw [updF_ne f (Ne.symm hc), hn] at e
    cases e

theorem StJ.put (h : StJ S w0 g off c n l f t W) (hn : f n = false) (hc : c < n) (hall : ∀ j, j < c + 1 → f j = true) (v : Value) : StJ S w0 g off c n l (updF f n) (updT t n v) (W.setCell ⟨g, off, none⟩ (t c)) := by
  obtain ⟨q1, q2⟩ := h.1 hn
  refine ⟨fun e => by simp at e, fun _ => ⟨fun k hk => by unfold updF; split; rfl; exact hall k hk, W, q1, ?_, ?_⟩⟩
  · rw [updT_ne _ _ (by omega)]; exact q2 (hall c (by omega))
  · rw [updT_ne _ _ (by omega)]
end
def ShrP (S : Nat → Prop) (l : List Nd) (w : World) (e : Ending) (w' : World) : Prop := ∃ v', e = .returned v' ∧ RepN (fun b => S b ∨ (w.heap.size ≤ b ∧ b < w'.heap.size)) w' v' l ∧ Below w.heap.size w w'

theorem ShrP.of_row {S : Nat → Prop} {w w' : World} {v' : Value} {L : List NV} (hS : ∀ b, S b → b < w.heap.size) (hown : w'.ownsRow w.heap.size 41 5 v' L.length (cellsV L)) (hb : Below w.heap.size w w') (hL : ∀ b ∈ L, RepV S w b.x b.va b.vk) : RepN (fun b => S b ∨ (w.heap.size ≤ b ∧ b < w'.heap.size)) w' v' (L.map NV.x) :=
  ⟨cellsV L, by rw [List.length_map]; exact Row.own hown (fun g hg => Or.inr (hown.lt g hg)), RepC.of_nv (fun b hb' => ((hL b hb').below hS hb).mono (fun c hc => Or.inl hc))⟩

end Go.Proofs.YteefodibpjgicaaGreat

/- Package build: begun, remark, chars. -/
namespace Go.Proofs.YteefodibpjgicaaGreat
open Go.RowKit Go.Maps
/-- A builder that stands for the state s. -/
def BS (F : Nat → Prop) (w : World) (g mb : Nat) (s : M7.St) (q : Nat) : Prop := ∃ vo vt pt fs tx n D, Bld F w g mb vo vt pt fs tx n D ∧ BInv fs tx n D s q
/-- A step of it. -/
def BStep (F : Nat → Prop) (w : World) (g mb : Nat) (s : M7.St) (q : Nat) (e : Ending) (w' : World) : Prop := e = .returned (.tuple #[]) ∧ BS (grw F w w') w' g mb s q ∧ Out F w w'
/-- A token that is not too great. -/
def FitT (t : Tok) : Prop := t.name.size ≤ 1048576 ∧ t.text.size ≤ 1048576 ∧ t.attrs.length ≤ 500000
/-- What a token takes of what is counted. -/
def tokQ (t : Tok) : Nat := 1 + t.attrs.length + t.text.size
abbrev Tok.val (t : Tok) (va : Value) : Value := .agg #[.int .i64 t.kind, .string t.name, va, .string t.text]

set_option maxHeartbeats 4000000 in
set_option maxRecDepth 100000 in
theorem bBegun (S : Nat → Prop) (nm : ByteArray) (ats : List Att) (va vk : Value) (w : World) (ha : Row S w 2 va ats.length (cellsA ats)) (hS : ∀ b, S b → b < w.heap.size) (hvk : ∃ a n c, vk = .slice a n c) (hl : ats.length ≤ 1000000) :
    Calls Tryz.prog 212 #[.string nm, va, vk] w fun e w' => ∃ va', e = .returned (.agg #[.int .i64 1, .string nm, va', .string ⟨#[]⟩, vk]) ∧ w'.ownsRow w.heap.size 43 2 va' ats.length (cellsA ats) ∧ Below w.heap.size w w' := by
  obtain ⟨ak, nk, ck, rfl⟩ := hvk
  obtain ⟨aa, ca, rfl⟩ := ha.slice
  have bz := Box.new w 41 [.int .i64 0, .string ⟨#[]⟩, .slice none 0 0, .string ⟨#[]⟩, .slice none 0 0]
  have hb0 : Below w.heap.size w (w.alloc (.cells #[.int .i64 0, .string ⟨#[]⟩, .slice none 0 0, .string ⟨#[]⟩, .slice none 0 0] 41)) := (Below.refl _ w).alloc (Nat.le_refl _) _
  have hs0 : (w.alloc (.cells #[.int .i64 0, .string ⟨#[]⟩, .slice none 0 0, .string ⟨#[]⟩, .slice none 0 0] 41)).heap.size = w.heap.size + 1 := by simp
  change Box (w.alloc (.cells #[.int .i64 0, .string ⟨#[]⟩, .slice none 0 0, .string ⟨#[]⟩, .slice none 0 0] 41)) _ _ _ at bz
  have ha0 := ha.keep (fun b hb => hb0.block b (hS b hb))
  replace bz := Lib.hid bz
  go_enter Tryz.func212, Tryz.ntmps212
  go_wp2_with (at_builtin
               refine wpList_spread _ 2 S rfl _ _ 39 43 rfl (w.heap.size + 1) Tryz.underlying39 infoA rfl (by omega) (.slice none 0 0) 0 [] rfl (World.ownsRow_nil _ _ _ _) _ ats.length (cellsA ats) rfl ha0 (cellsA_one _) (by omega) (by omega) (by omega) ?_
               intro v1 w1 hown1 hgrow1
               obtain ⟨a3, cap3, rfl⟩ := own_sliceW hown1
               have bz1 := bz.out.keep (hgrow1.block w.heap.size (by omega) (by simp [Value.ownBlock]))
               have q0 := bz1.cell (i := 0) rfl
               have q1 := bz1.cell (i := 1) rfl
               have q2 := bz1.cell (i := 2) rfl
               have q3 := bz1.cell (i := 3) rfl
               have q4 := bz1.cell (i := 4) rfl
               have fz := bz1.free)
  have bz2 := boxS5 bz1 (.int .i64 1) (.string nm) (.slice a3 ats.length cap3) (.string ⟨#[]⟩) (.slice ak nk ck)
  have hfar := farS5 w1 w.heap.size (.int .i64 1) (.string nm) (.slice a3 ats.length cap3) (.string ⟨#[]⟩) (.slice ak nk ck)
  obtain ⟨w2, hw2⟩ : ∃ W, (((((w1.setCell ⟨w.heap.size, 0, none⟩ (.int .i64 1)).setCell ⟨w.heap.size, 1, none⟩ (.string nm)).setCell ⟨w.heap.size, 2, none⟩ (.slice a3 ats.length cap3)).setCell ⟨w.heap.size, 3, none⟩ (.string ⟨#[]⟩)).setCell ⟨w.heap.size, 4, none⟩ (.slice ak nk ck)) = W := ⟨_, rfl⟩
  rw [hw2] at bz2 hfar ⊢
  clear hw2 q0 q1 q2 q3 q4 fz
  have q0 := bz2.cell (i := 0) rfl
  have q1 := bz2.cell (i := 1) rfl
  have q2 := bz2.cell (i := 2) rfl
  have q3 := bz2.cell (i := 3) rfl
  have q4 := bz2.cell (i := 4) rfl
  have hown2 : w2.ownsRow w.heap.size 43 2 (.slice a3 ats.length cap3) ats.length (cellsA ats) := by
    have e : (0 : Nat) + ats.length = ats.length := Nat.zero_add _
    rw [e, List.nil_append] at hown1
    refine own_base (own_keepW hown1 (fun c hc => hfar.block c ?_)) (fun c hc => ?_)
    · have := (hown1.lt c hc).1; omega
    · have := (hown1.lt c hc).1; omega
  have hz1 := hgrow1.size
  refine bodyPost_ret (v := .agg #[.int .i64 1, .string nm, .slice a3 ats.length cap3, .string ⟨#[]⟩, .slice ak nk ck]) (by simp [results, Tryz.results212, go_sem, q0, q1, q2, q3, q4]) rfl ⟨_, rfl, hown2, ?_⟩
  exact ⟨hfar.os.trans (hgrow1.os.trans hb0.os), hfar.tape.trans (hgrow1.tape.trans hb0.tape), hfar.output.trans (hgrow1.output.trans hb0.output), by have := hfar.size; omega, fun b hb => (hfar.block b (by omega)).trans ((hgrow1.block b (by omega) (by simp [Value.ownBlock])).trans (hb0.block b hb))⟩

/-- A comment. -/
theorem remark_weight (t : Tok) : M3.weight [M7.coT t] ≤ tokQ t := by
  rw [M3.weight_cons, M3.weight_nil]
  show 1 + 0 + M3.weight [] + 0 ≤ _
  rw [M3.weight_nil]; unfold tokQ; omega

set_option maxHeartbeats 4000000 in
set_option maxRecDepth 100000 in
theorem bRemark {F : Nat → Prop} {w : World} {g mb q : Nat} {s : M7.St} {t : Tok} {va : Value} (h : BS F w g mb s q) (hq : q ≤ 400000) (hva : ∃ a n c, va = .slice a n c) :
    Calls Tryz.prog 216 #[.pointer (some ⟨g, 0, none⟩), t.val va] w (BStep F w g mb ⟨M7.putN s.d (M7.coT t) s.L, s.d⟩ (q + tokQ t)) := by
  obtain ⟨av, nv, cv, rfl⟩ := hva
  obtain ⟨vo, vt, pt, fs, tx, n, D, hB, hI⟩ := h
  obtain ⟨A, f, rfl⟩ := hI.snoc
  have hkl := hI.kids_le f (by simp)
  have hfs := hI.fsq
  simp at hfs
  have hb0 : Below w.heap.size w (w.alloc (.cells #[.int .i64 t.kind, .string t.name, .slice av nv cv, .string t.text] 87)) := (Below.refl _ w).alloc (Nat.le_refl _) _
  have hC := Lib.hid (bAdd (x := M7.coT t) (va := .slice none 0 0) (vk := .slice none 0 0) (hB.below hb0) (by omega) (by omega) ⟨Row.nil _ _ _, RepN.nil _ _⟩)
  replace hI := Lib.hid hI
  have hlt := hB.lt
  replace hlt := Lib.hid hlt
  replace hb0 := Lib.hid hb0
  clear hB
  go_enter Tryz.func216, Tryz.ntmps216
  go_wp2_with fail
  refine hC.out.mono ?_
  rintro e w1 ⟨rfl, vt1, pt1, f1, hx, hn, s1⟩
  have s2 := s1.start hb0.out hlt.out
  have hI2 := hI.out.add hx hn (by rfl) (remark_weight t) (by unfold tokQ; omega)
  replace s2 := Lib.hid s2
  replace hI2 := Lib.hid hI2
  clear s1 hx hn
  go_wp2_with fail
  go_end0
  exact ⟨rfl, ⟨_, _, _, _, _, _, _, s2.out.1, hI2.out⟩, s2.out.2.1⟩

set_option maxHeartbeats 4000000 in
set_option maxRecDepth 100000 in
theorem bChars {F : Nat → Prop} {w : World} {g mb q : Nat} {s : M7.St} {t : Tok} {va : Value} (h : BS F w g mb s q) (hq : q ≤ 400000) (ht : FitT t) (hva : ∃ a n c, va = .slice a n c) :
    Calls Tryz.prog 215 #[.pointer (some ⟨g, 0, none⟩), t.val va] w (BStep F w g mb ⟨M7.putN s.d (M7.txT t) s.L, s.d⟩ (q + tokQ t)) := by
  obtain ⟨av, nv, cv, rfl⟩ := hva
  obtain ⟨vo, vt, pt, fs, tx, n, D, hB, hI⟩ := h
  have htq := hI.tq
  have hts := ht.2.1
  have hb0 : Below w.heap.size w (w.alloc (.cells #[.int .i64 t.kind, .string t.name, .slice av nv cv, .string t.text] 87)).drew := ((Below.refl _ w).alloc (Nat.le_refl _) _).drew
  have hB0 := hB.below hb0
  have hC := Lib.hid (bxWrite g _ _ _ _ tx t.text _ hB0.box hB0.ptr hB0.text hB0.text_ne (by omega))
  replace hI := Lib.hid hI
  have hlt := hB.lt
  replace hlt := Lib.hid hlt
  replace hb0 := Lib.hid hb0
  replace hB0 := Lib.hid hB0
  clear hB
  go_enter Tryz.func215, Tryz.ntmps215
  go_wp2_with fail
  go_region_law
    (first
      | (go_simp; go_at_call 106; refine hC.out.mono ?_; rintro e w1 ⟨rfl, v', hbx, htx, hat, hT⟩; have s1 := hB0.out.txt hbx (.inr rfl) htx hat hT; replace s1 := Lib.hid s1; clear hbx htx hat hT))
  all_goals
    have s2 := BSt.start hb0.out hlt.out s1.out
    have hI2 := hI.out.chars (t := t) (c := tokQ t) (by unfold tokQ; omega)
    replace s2 := Lib.hid s2
    replace hI2 := Lib.hid hI2
    clear s1
    go_wp2_with fail
    go_end0
    exact ⟨rfl, ⟨_, _, _, _, _, _, _, s2.out.1, hI2.out⟩, s2.out.2.1⟩
end Go.Proofs.YteefodibpjgicaaGreat

/- Package build: end. -/
namespace Go.Proofs.YteefodibpjgicaaGreat
open Go.RowKit Go.Maps
/-- How many elements a builder has open, and the outside. -/
def lenOf (w : World) (g : Nat) : Nat := match w.cell? ⟨g, 0, none⟩ with | some (.slice _ n _) => n | _ => 0
theorem lenOf_eq {w : World} {g n cap : Nat} {a : Option Addr} (h : w.cell? ⟨g, 0, none⟩ = some (.slice a n cap)) : lenOf w g = n := by unfold lenOf; rw [h]

/-- Between two rounds: the nodes are as they were, some of the open elements shut. -/
structure Shutting (F : Nat → Prop) (w : World) (g mb : Nat) (s : M7.St) (o : List ByteArray) (q : Nat) (W : World) (vo vt pt : Value) (fs : List FV) (tx : List UInt8) (n : Nat) (D : DataW Unit) (d : Nat) : Prop where
  bld : Bld (grw F w W) W g mb vo vt pt fs tx n D
  inv : BInv fs tx n D ⟨s.L, d⟩ q
  out : Out F w W
  pre : ∃ p, o = namesW fs ++ p

theorem Shutting.next {F : Nat → Prop} {w W W' : World} {g mb : Nat} {s : M7.St} {o : List ByteArray} {q : Nat} {vo vt pt vo' vt' pt' : Value} {A : List FV} {p f p' : FV} {tx : List UInt8} {n n' : Nat} {D : DataW Unit} {d : Nat} (h : Shutting F w g mb s o q W vo vt pt ((A ++ [p]) ++ [f]) tx n D d)
    (hx : p'.x = M7.wk p.x (p.x.kids ++ [M7.wk f.x (f.x.kids ++ M7.endK tx)])) (hn : p'.nx = p.nx) (hn' : n' ≤ n + 1) (hs : BSt (grw F w W) W g mb vo vt ((A ++ [p]) ++ [f]) W' vo' vt' pt' (A ++ [p']) [] n' (shutD f D)) : Shutting F w g mb s o q W' vo' vt' pt' (A ++ [p']) [] n' (shutD f D) (d - 1) := by
  obtain ⟨h1, h2⟩ := h.inv.shut h.bld.map.isMap hx hn hn'
  obtain ⟨pp, hp⟩ := h.pre
  exact ⟨hs.1.grw2 h.out.size hs.2.1.size, h1, h.out.trans hs.2.1, ⟨f.x.name :: pp, by rw [hp, h2]; simp⟩⟩
theorem Shutting.bounds {F : Nat → Prop} {w W : World} {g mb : Nat} {s : M7.St} {o : List ByteArray} {q : Nat} {vo vt pt : Value} {A : List FV} {p f : FV} {tx : List UInt8} {n : Nat} {D : DataW Unit} {d : Nat} (h : Shutting F w g mb s o q W vo vt pt ((A ++ [p]) ++ [f]) tx n D d) (hq : q ≤ 400000) :
    A.length ≤ 900000 ∧ f.x.kids.length ≤ 900000 ∧ p.x.kids.length ≤ 900000 ∧ f.x.name.size ≤ 1073741824 ∧ f.nx ≤ 1000000 ∧ n ≤ 1000000 := by
  have h1 := h.inv.fsq
  have h2 := h.inv.kids_le f (by simp)
  have h3 := h.inv.kids_le p (by simp)
  have h4 := (h.inv.el A.length f h.inv.at_last).2.2
  have h5 := h.inv.nxt A.length f h.inv.at_last
  have h6 := M7.plc_le (namesW ((A ++ [p]) ++ [f])) f.x.name A.length
  have h7 := h.inv.nq
  simp at h1 h7
  exact ⟨by omega, by omega, by omega, by omega, by omega, by omega⟩
theorem two_of {fs : List FV} (h : 2 ≤ fs.length) : ∃ A p f, fs = (A ++ [p]) ++ [f] := by
  rcases List.eq_nil_or_concat fs with rfl | ⟨B, f, rfl⟩
  · simp at h
  · rcases List.eq_nil_or_concat B with rfl | ⟨A, p, rfl⟩
    · simp at h
    · exact ⟨A, p, f, by simp⟩

set_option maxHeartbeats 8000000 in
set_option maxRecDepth 100000 in
theorem bEnd {F : Nat → Prop} {w : World} {g mb q : Nat} {s : M7.St} {t : Tok} {va : Value} (h : BS F w g mb s q) (hq : q ≤ 400000) (ht : FitT t) (hva : ∃ a n c, va = .slice a n c) :
    Calls Tryz.prog 214 #[.pointer (some ⟨g, 0, none⟩), t.val va] w (BStep F w g mb (match M7.endAt (M7.openN s.d s.L) t.name s.d with | some i => ⟨s.L, i⟩ | none => s) q) := by
  obtain ⟨av, nv, cv, rfl⟩ := hva
  obtain ⟨vo, vt, pt, fs, tx, n, D, hB, hI⟩ := h
  have hnames := hI.names
  rw [hnames, M7.plc_end]
  obtain ⟨P, hP⟩ : ∃ P, P = M7.plc (namesW fs) t.name s.d := ⟨_, rfl⟩
  obtain ⟨hm1, hm2⟩ := hI.map t.name
  rw [← hP] at hm1 hm2 ⊢
  generalize hS : (match (if P = 0 then (none : Option Nat) else some (P - 1)) with | some i => (⟨s.L, i⟩ : M7.St) | none => s) = s'
  replace hS := Lib.hid hS
  have hPle : P ≤ s.d := by rw [hP]; exact M7.plc_le _ _ _
  have hlen := hI.len
  have hfsq := hI.fsq
  have hts := ht.1
  have bz := Box.new w 87 [.int .i64 t.kind, .string t.name, .slice av nv cv, .string t.text]
  have hb0 : Below w.heap.size w (w.alloc (.cells #[.int .i64 t.kind, .string t.name, .slice av nv cv, .string t.text] 87)).drew := ((Below.refl _ w).alloc (Nat.le_refl _) _).drew
  change Box (w.alloc (.cells #[.int .i64 t.kind, .string t.name, .slice av nv cv, .string t.text] 87)).drew _ _ _ at bz
  have hB0 := hB.below hb0
  have hkey : keyOf Tryz.prog 9 (.string t.name) = some (keyN t.name) := WideMaps.keyOf_string_mk Tryz.underlying9 (s := t.name) (by unfold maxLen; omega)
  have hrun := look_ok_int (P := Tryz.prog) hB0.map keySS Tryz.underlying191 Tryz.underlying3 (Tryz.zeroValue3 _) hkey hm2
  rw [hm1] at hrun
  have k3 := hB0.box.cell (i := 3) rfl
  have z1 := bz.cell (i := 1) rfl
  have hsh : Shutting F w g mb s (namesW fs) q (w.alloc (.cells #[.int .i64 t.kind, .string t.name, .slice av nv cv, .string t.text] 87)).drew vo vt pt fs tx n D s.d :=
    ⟨hB.grow hb0, hI, ⟨hb0.os, hb0.tape, hb0.output, hb0.size, fun b hb _ => hb0.block b hb⟩, ⟨[], by simp⟩⟩
  replace hsh := Lib.hid hsh
  replace hI := Lib.hid hI
  replace hB0 := Lib.hid hB0
  replace hP := Lib.hid hP
  replace bz := Lib.hid bz
  clear hB hnames hm1 hm2
  go_enter Tryz.func214, Tryz.ntmps214
  go_wp2_with fail
  go_region
  clear hrun k3 z1
  obtain ⟨w0, hw0⟩ : ∃ W, (w.alloc (.cells #[.int .i64 t.kind, .string t.name, .slice av nv cv, .string t.text] 87)).drew = W := ⟨_, rfl⟩
  rw [hw0] at hsh ⊢
  clear hb0 bz hB0
  by_cases h0 : P = 0
  · have hd0 : (!decide (P = 0)) = false := by simp [h0]
    have hs' : s' = s := by rw [← hS.out, if_pos h0]
    rw [hd0]
    go_wp2_with fail
    go_loopw [16] (fun u16 wr => wr = w0) (fun u16 wr => 0)
    case atStart => exact rfl
    case round =>
      subst hrel
      go_wp2_with fail
      go_end0
      rw [hs']
      exact ⟨rfl, ⟨_, _, _, _, _, _, _, hsh.out.bld, hsh.out.inv⟩, hsh.out.out⟩
  · have hd0 : (!decide (P = 0)) = true := by simp [h0]
    have hs' : s' = ⟨s.L, P - 1⟩ := by rw [← hS.out, if_neg h0]
    rw [hd0]
    have h1P : (1 : Int) ≤ (P : Int) := by omega
    go_wp2_with fail
    go_loopw [16] (fun u16 wr => ∃ vo vt pt fs' tx n D d, Shutting F w g mb s (namesW fs) q wr vo vt pt fs' tx n D d ∧ P ≤ fs'.length) (fun u16 wr => lenOf wr g)
    case atStart => exact ⟨_, _, _, _, _, _, _, _, hsh.out, by omega⟩
    case round =>
      obtain ⟨vo1, vt1, pt1, fs1, tx1, n1, D1, d1, hk, hle⟩ := hrel
      obtain ⟨go, cap, hvo, hcl, hcm, -⟩ := hk.bld.open_slice hk.inv.ne
      have k0 := hk.bld.box.cell (i := 0) rfl
      rw [hvo] at k0
      by_cases hlt : P < fs1.length
      · obtain ⟨A, p, f, rfl⟩ := two_of (fs := fs1) (by omega)
        obtain ⟨b1, b2, b3, b4, b5, b6⟩ := hk.bounds hq
        have hC := Lib.hid (bShut hk.bld b1 b2 b3 b4 b5 b6)
        have hlI : (P : Int) < (A.length : Int) + 2 := by simp at hlt; omega
        have hlD : decide ((P : Int) < (A.length : Int) + 2) = true := decide_eq_true hlI
        replace hk := Lib.hid hk
        go_wp2_with fail
        refine hC.out.mono ?_
        rintro e w1 ⟨rfl, vo2, vt2, pt2, p', n', hx, hn, hn', hst⟩
        have hk2 := hk.out.next hx hn hn' hst
        have hl2 : lenOf w1 g < lenOf wr g := by
          obtain ⟨go2, cap2, hvo2, _⟩ := hk2.bld.open_slice (by simp)
          have k02 := hk2.bld.box.cell (i := 0) rfl
          rw [hvo2] at k02
          rw [lenOf_eq k02, lenOf_eq k0]
          simp
        replace hk2 := Lib.hid hk2
        clear hst hx hn hk k0
        go_wp2_with fail
        go_roundw
        case rel => exact ⟨_, _, _, _, _, _, _, _, hk2.out, by simp at hlt ⊢; omega⟩
        case measure => exact hl2
      · have hlI : ¬ ((P : Int) < ((fs1.length : Nat) : Int)) := by omega
        have hld := hk.inv.len
        have he : (⟨s.L, d1⟩ : M7.St) = s' := by
          rw [hs']
          congr 1
          show d1 = P - 1
          have : d1 + 1 = fs1.length := hld
          omega
        have hf : BStep F w g mb s' q (.returned (.tuple #[])) wr := ⟨rfl, ⟨_, _, _, _, _, _, _, hk.bld, he ▸ hk.inv⟩, hk.out⟩
        replace hf := Lib.hid hf
        clear hk
        go_wp2_with fail
        go_end0
        have hg := hf.out
        rw [hs'] at hg
        exact hg
end Go.Proofs.YteefodibpjgicaaGreat

/- A region that draws its order, by what is known of each operation's slot: and what stands behind is closed; a row that grows and a store at its end. -/
namespace Go.Proofs.YteefodibpjgicaaGreat
theorem waits_none {md : Region.Mode} {ops : Array Oper} {i j : Nat} (h : ops.size ≤ i) : Region.waitsFor md ops i j = false := by
  unfold Region.waitsFor
  rw [Array.getElem?_eq_none h]

theorem wp_region_knownC {id n : Nat} {P : Program} {ops : Array Oper} {Q : Exit → Act → World → Prop} {a : Act} {w : World} (Vs : List (Option Value)) (A : (Nat → Value) → Act) (I : (Nat → Bool) → (Nat → Value) → World → Prop) (t0 : Nat → Value)
    (hm : P.follows .mixedOrders = true) (hn : ops.size = n) (hl : Vs.length = n) (hord : ordB .any ops = true) (ha : a = A t0) (h0 : I (fun i => decide (n ≤ i)) t0 w.drew)
    (hstep : ∀ i, i < n → ∀ (f : Nat → Bool) (t : Nat → Value) (W : World), f i = false → (∀ j, Region.waitsFor .any ops i j = true → f j = true) → (∀ i j, Region.waitsFor .any ops i j = true → f i = true → f j = true) → Kn Vs f t → I f t W →
      wpOp P ops Q i (fun a' W' => ∃ v, a' = A (updT t i v) ∧ Kn Vs (updF f i) (updT t i v) ∧ I (updF f i) (updT t i v) W') (A t) W)
    (hdone : ∀ (f : Nat → Bool) (t : Nat → Value) (W : World), (∀ i, i < n → f i = true) → Kn Vs f t → I f t W → Q .normal (A t) W) :
    (Code.region id ops true).wp P Q a w := by
  refine wp_region_known Vs A (fun f t W => I f t W ∧ ∀ i j, Region.waitsFor .any ops i j = true → f i = true → f j = true) t0 hm hn hl hord ha ⟨h0, ?_⟩ ?_ ?_
  · intro i j hw hi
    have hi : n ≤ i := by simpa using hi
    rw [waits_none (by omega)] at hw
    cases hw
  · intro i hi f t W hfi hwt hk hI
    refine wpOp_mono ?_ (hstep i hi f t W hfi hwt hI.2 hk hI.1)
    rintro a' W' ⟨v, h1, h2, h3⟩
    refine ⟨v, h1, h2, h3, fun k j hw hk' => ?_⟩
    by_cases e : j = i
    · rw [e]; simp [updF]
    · rw [updF_ne _ e]
      by_cases e2 : k = i
      · rw [e2] at hw; exact hwt j hw
      · rw [updF_ne _ e2] at hk'; exact hI.2 k j hw hk'
  · intro f t W hall hk hI
    exact hdone f t W hall hk hI.1

/-- Operations bs (a new row of one), ap (an append), st (a store) turn the world, one behind the other. -/
def PuI (bs ap st : Nat) (Wa Wb Wc Wd : World) (f : Nat → Bool) (W : World) : Prop :=
  (f bs = false → W = Wa) ∧ (f bs = true → f ap = false → W = Wb) ∧ (f ap = true → f st = false → W = Wc) ∧ (f st = true → W = Wd)
section
variable {bs ap st : Nat} {Wa Wb Wc Wd W : World} {f : Nat → Bool}
theorem PuI.start (n : Nat) (h1 : bs < n) (h2 : ap < n) (h3 : st < n) : PuI bs ap st Wa Wb Wc Wd (fun i => decide (n ≤ i)) Wa := by
  refine ⟨fun _ => rfl, fun h => ?_, fun h => ?_, fun h => ?_⟩ <;> (simp at h; omega)
theorem PuI.early (h : PuI bs ap st Wa Wb Wc Wd f W) (ha : f ap = false) : W = Wa ∨ W = Wb := by
  cases hb : f bs
  · exact .inl (h.1 hb)
  · exact .inr (h.2.1 hb ha)
theorem PuI.same (h : PuI bs ap st Wa Wb Wc Wd f W) (i : Nat) (h1 : bs ≠ i) (h2 : ap ≠ i) (h3 : st ≠ i) : PuI bs ap st Wa Wb Wc Wd (updF f i) W := by
  unfold PuI
  rw [updF_ne _ h1, updF_ne _ h2, updF_ne _ h3]
  exact h
theorem updF_self (f : Nat → Bool) (i : Nat) : updF f i i = true := by simp [updF]
theorem PuI.mk1 (hba : ap ≠ bs) (hbs : st ≠ bs) (ha : f ap = false) (hs : f st = false) : PuI bs ap st Wa Wb Wc Wd (updF f bs) Wb := by
  unfold PuI
  rw [updF_self, updF_ne _ hba, updF_ne _ hbs, ha, hs]
  exact ⟨(fun h => by cases h), fun _ _ => rfl, (fun h => by cases h), (fun h => by cases h)⟩
theorem PuI.app (hba : bs ≠ ap) (hbs : st ≠ ap) (hb : f bs = true) (hs : f st = false) : PuI bs ap st Wa Wb Wc Wd (updF f ap) Wc := by
  unfold PuI
  rw [updF_self, updF_ne _ hba, updF_ne _ hbs, hb, hs]
  exact ⟨(fun h => by cases h), (fun _ h => by cases h), fun _ _ => rfl, (fun h => by cases h)⟩
theorem PuI.put (hba : bs ≠ st) (hbs : ap ≠ st) (hb : f bs = true) (ha : f ap = true) : PuI bs ap st Wa Wb Wc Wd (updF f st) Wd := by
  unfold PuI
  rw [updF_self, updF_ne _ hba, updF_ne _ hbs, hb, ha]
  exact ⟨(fun h => by cases h), (fun _ h => by cases h), (fun _ h => by cases h), fun _ => rfl⟩
end
/-- An append whose run is known. -/
theorem wp_append_run {P : Program} {o : Oper} {a : Act} {K : Act → World → Prop} {Q : Exit → Act → World → Prop} {w w' : World} (s x : Operand) (t : TypeId) (ho : o.op = .call { callee := .builtin .append, args := #[s, x], argTypes := #[t, t] })
    (v xv r : Value) (hs : a.eval s = v) (hx : a.eval x = xv) (hr : (Builtin.append_ #[t, t] o.type #[v, xv]).run P w = .ok r w') (h : K (a.put o.dst r) w') : Oper.wp P o a w K Q := by
  unfold Oper.wp execOp
  simp only [ho, resolve, invoke, builtin, Sem.run_bind, Sem.run_pure, Result.andThen_ok, List.map_toArray, List.map_cons, List.map_nil, hs, hx, hr]
  exact h
end Go.Proofs.YteefodibpjgicaaGreat
