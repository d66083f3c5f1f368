/- Texts joined: Ref07c, Math7d, Ref07t, Ref04, Par2, Par3, Math7c, Math8a, Math5g, Math5h, Math5i, Math5j. -/
import Derived.BigQuiet
import Derived.Lib.SlBytesConst
import Derived.Test.YteefodibpjgicaaGreatRows
import Derived.Test.YteefodibpjgicaaGreatS1
import Derived.Test.YteefodibpjgicaaGreatS2
import Derived.Test.YteefodibpjgicaaGreatS3
import Derived.Test.YteefodibpjgicaaGreatS4
import Derived.Test.YteefodibpjgicaaGreatS5
import Derived.Test.YteefodibpjgicaaGreatS6
import Derived.Test.YteefodibpjgicaaGreatS7
import Derived.Test.YteefodibpjgicaaGreatS8
import Derived.Test.YteefodibpjgicaaGreatS9
import Derived.Test.YteefodibpjgicaaGreatS10
namespace Go.Proofs.YteefodibpjgicaaGreat
open Go.RowKit
def ShrB (S : Nat → Prop) (s : M7.St) (w : World) (e : Ending) (w' : World) : Prop := ∃ v' vp', e = .returned (.agg #[v', vp']) ∧ RepN (fun b => S b ∨ (w.heap.size ≤ b ∧ b < w'.heap.size)) w' v' s.L ∧ Ints (fun b => S b ∨ (w.heap.size ≤ b ∧ b < w'.heap.size)) w' vp' (M7.pathN s.d s.L) ∧ Below w.heap.size w w'
theorem three7 (w : World) (t1 t2 t3 : TypeId) (c1 c2 c3 : List Value) : ∃ W, ((w.alloc (.cells c1.toArray t1)).alloc (.cells c2.toArray t2)).alloc (.cells c3.toArray t3) = W ∧ Box W w.heap.size t1 c1 ∧ Box W (w.heap.size + 1) t2 c2 ∧ Box W (w.heap.size + 1 + 1) t3 c3 ∧ Below w.heap.size w W ∧ W.heap.size = w.heap.size + 3 := by
  have h1 : (w.alloc (.cells c1.toArray t1)).heap.size = w.heap.size + 1 := by simp
  have h2 : ((w.alloc (.cells c1.toArray t1)).alloc (.cells c2.toArray t2)).heap.size = w.heap.size + 1 + 1 := by simp
  have q2 := Box.new (w.alloc (.cells c1.toArray t1)) t2 c2
  have q3 := Box.new ((w.alloc (.cells c1.toArray t1)).alloc (.cells c2.toArray t2)) t3 c3
  rw [h1] at q2
  rw [h2] at q3
  refine ⟨_, rfl, ((Box.new w t1 c1).alloc _).alloc _, q2.alloc _, q3, (((Below.refl _ w).alloc (Nat.le_refl _) _).alloc (by omega) _).alloc (by omega) _, by simp⟩
theorem Ints.take {S : Nat → Prop} {w : World} {a : Option Addr} {n cap : Nat} {l : List Nat} (h : Ints S w (.slice a n cap) l) (i : Nat) (hi : i ≤ l.length) : Ints S w (.slice a i cap) (l.take i) := by
  obtain ⟨h0, a', cap', h1, h2, h3, h4, h5⟩ := h
  cases h1
  refine ⟨by simp, a, cap, by rw [List.length_take, Nat.min_eq_left hi], by rw [List.length_take]; omega, h3, h4, fun hp => ?_⟩
  rw [List.length_take] at hp
  obtain ⟨b, off, e, hb, hx⟩ := h5 (by omega)
  refine ⟨b, off, e, hb, fun j y hj => hx j y ?_⟩
  rw [List.map_take, List.getElem?_take] at hj
  split at hj
  · exact hj
  · cases hj
theorem level_le (d : Nat) : ∀ (L : List Nd), (M7.levelN d L).length ≤ M3.weight L := by
  induction d with
  | zero => intro L; exact M3.length_le_weight L
  | succ d ih =>
    intro L
    rcases List.eq_nil_or_concat L with rfl | ⟨A, x, rfl⟩
    · exact Nat.zero_le _
    · rw [List.concat_eq_append, M7.levelN_snoc, M3.weight_append, M3.weight_cons]
      have := ih x.kids
      omega
def StK (S : Nat → Prop) (w0 : World) (g : Nat) (l : List Nd) (pv : Value) (f : Nat → Bool) (t : Nat → Value) (W : World) : Prop :=
  (f 11 = false → Below w0.heap.size w0 W ∧ (f 7 = true → RepN (fun b => S b ∨ (w0.heap.size ≤ b ∧ b < W.heap.size)) W (t 7) l)) ∧
  (f 10 = true → f 7 = true ∧ t 10 = .agg #[t 7, pv]) ∧
  (f 11 = true → (∀ j, j < 11 → f j = true) ∧ ∃ W0, Below w0.heap.size w0 W0 ∧ RepN (fun b => S b ∨ (w0.heap.size ≤ b ∧ b < W0.heap.size)) W0 (t 7) l ∧ W = (W0.setCell ⟨g, 0, none⟩ (t 7)).setCell ⟨g, 1, none⟩ pv)
section
variable {S : Nat → Prop} {w0 W : World} {g : Nat} {l : List Nd} {pv : Value} {f : Nat → Bool} {t : Nat → Value}
theorem StK.start (S : Nat → Prop) (w0 : World) (g : Nat) (l : List Nd) (pv : Value) (t : Nat → Value) : StK S w0 g l pv (fun j => decide (12 ≤ j)) t w0.drew :=
  ⟨fun _ => ⟨(Below.refl _ w0).drew, fun h => by simp at h⟩, fun h => by simp at h, fun h => by simp at h⟩
theorem StK.notlast (h : StK S w0 g l pv f t W) {j : Nat} (hj : j < 12) (hf : f j = false) : f 11 = false := by
  cases h10 : f 11
  · rfl
  · rcases (by omega : j < 11 ∨ j = 11) with hl | rfl
    · have := (h.2.2 h10).1 j hl
      rw [hf] at this
      cases this
    · rw [h10] at hf
      cases hf
theorem StK.same (h : StK S w0 g l pv f t W) (j : Nat) (v : Value) (h1 : j ≠ 7) (h2 : j ≠ 10) (h3 : j ≠ 11) : StK S w0 g l pv (updF f j) (updT t j v) W := by
  refine ⟨fun e => ?_, fun e => ?_, fun e => ?_⟩
  · rw [updF_ne f (Ne.symm h3)] at e
    rw [updF_ne f (Ne.symm h1), updT_ne _ _ (Ne.symm h1)]
    exact h.1 e
  · rw [updF_ne f (Ne.symm h2)] at e
    rw [updF_ne f (Ne.symm h1), updT_ne _ _ (Ne.symm h1), updT_ne _ _ (Ne.symm h2)]
    exact h.2.1 e
  · rw [updF_ne f (Ne.symm h3)] at e
    obtain ⟨e1, e2⟩ := h.2.2 e
    rw [updT_ne _ _ (Ne.symm h1)]
    exact ⟨fun k hk => by unfold updF; split; rfl; exact e1 k hk, e2⟩
theorem StK.call (h : StK S w0 g l pv f t W) (hn : f 11 = false) (h7 : f 7 = false) {W' : World} {v : Value} (hv : RepN (fun b => S b ∨ (W.heap.size ≤ b ∧ b < W'.heap.size)) W' v l) (hb : Below W.heap.size W W') : StK S w0 g l pv (updF f 7) (updT t 7 v) W' := by
  obtain ⟨q1, _⟩ := h.1 hn
  have hz := q1.size
  refine ⟨fun _ => ⟨bt q1 hb, fun _ => ?_⟩, fun e => ?_, fun e => ?_⟩
  · rw [updT_same]
    refine hv.mono (fun b hb' => ?_)
    rcases hb' with hb' | hb'
    · exact Or.inl hb'
    · exact Or.inr ⟨by omega, hb'.2⟩
  · rw [updF_ne f (by decide)] at e
    rw [(h.2.1 e).1] at h7
    cases h7
  · rw [updF_ne f (by decide), hn] at e
    cases e
theorem StK.made (h : StK S w0 g l pv f t W) (h7 : f 7 = true) : StK S w0 g l pv (updF f 10) (updT t 10 (.agg #[t 7, pv])) W := by
  refine ⟨fun e => ?_, fun _ => ?_, fun e => ?_⟩
  · rw [updF_ne f (by decide)] at e
    rw [updF_ne f (by decide), updT_ne _ _ (by decide)]
    exact h.1 e
  · rw [updF_ne f (by decide), updT_same, updT_ne _ _ (by decide)]
    exact ⟨h7, rfl⟩
  · rw [updF_ne f (by decide)] at e
    obtain ⟨e1, e2⟩ := h.2.2 e
    rw [updT_ne _ _ (by decide)]
    exact ⟨fun k hk => by unfold updF; split; rfl; exact e1 k hk, e2⟩
theorem StK.put (h : StK S w0 g l pv f t W) (hn : f 11 = false) (hall : ∀ j, j < 11 → f j = true) (v : Value) : StK S w0 g l pv (updF f 11) (updT t 11 v) ((W.setCell ⟨g, 0, none⟩ (t 7)).setCell ⟨g, 1, none⟩ pv) := by
  obtain ⟨q1, q2⟩ := h.1 hn
  refine ⟨fun e => by simp at e, fun e => ?_, fun _ => ⟨fun k hk => by unfold updF; split; rfl; exact hall k hk, W, q1, ?_, ?_⟩⟩
  · rw [updF_ne f (by decide)] at e
    rw [updF_ne f (by decide), updT_ne _ _ (by decide), updT_ne _ _ (by decide)]
    exact h.2.1 e
  · rw [updT_ne _ _ (by decide)]; exact q2 (hall 7 (by decide))
  · rw [updT_ne _ _ (by decide)]
end
set_option maxHeartbeats 8000000 in
set_option maxRecDepth 100000 in
theorem ref07Put (S : Nat → Prop) (v vp va : Value) (s : M7.St) (t : Tok) (w : World) (hok : s.ok) (hd : s.d ≤ 1000000) (hw : M3.weight s.L ≤ 100000) (ht : dtN s.L + t.text.size ≤ 1073741824) (hS : ∀ b, S b → b < w.heap.size) (hr : RepN S w v s.L) (hp : Ints S w vp (M7.pathN s.d s.L)) (ha : Row S w 2 va t.attrs.length (cellsA t.attrs)) :
    Calls Tryz.prog 65 #[.agg #[v, vp], .agg #[.int .i64 t.kind, .string t.name, va, .string t.text]] w (ShrB S (M7.step s t) w) := by
  obtain ⟨L, d⟩ := s
  obtain ⟨kt, nt, att, tt⟩ := t
  obtain ⟨s', hs'⟩ : ∃ s', Hid (M7.step ⟨L, d⟩ ⟨kt, nt, att, tt⟩ = s') := ⟨_, rfl⟩
  rw [hs'.out]
  have hok : M7.okD d L := hok
  simp only at hd hw ht hr hp ha ⊢
  obtain ⟨a, cap, rfl⟩ := hr.slice
  obtain ⟨ap, cp, hvp⟩ := Row.slice hp
  have hpl := M7.pathN_len hok
  rw [hpl] at hvp
  subst hvp
  obtain ⟨at_, ct, hva⟩ := Row.slice ha
  subst hva
  obtain ⟨-, hlp, hcp⟩ := Row.len hp
  obtain ⟨wo, rfl⟩ : ∃ wo : World, wo = w := ⟨_, rfl⟩
  replace hok := Lib.hid hok
  go_enter Tryz.func65, Tryz.ntmps65
  go_upto_region 1 with (fail)
  obtain ⟨W3, hW3, bxB, bxT, bxR, hb3, hz3⟩ := three7 wo 84 87 84 [.slice a L.length cap, .slice ap d cp] [.int .i64 kt, .string nt, .slice at_ att.length ct, .string tt] [.slice none 0 0, .slice none 0 0]
  have hW3' : ((wo.alloc (.cells #[.slice a L.length cap, .slice ap d cp] 84)).alloc (.cells #[.int .i64 kt, .string nt, .slice at_ att.length ct, .string tt] 87)).alloc (.cells #[.slice none 0 0, .slice none 0 0] 84) = W3 := hW3
  rw [hW3']
  clear hW3 hW3'
  have hSW : ∀ b, S b → b < W3.heap.size := fun b hb => Nat.lt_of_lt_of_le (hS b hb) hb3.size
  have hOp := Lib.hid (ref07Open S (.slice a L.length cap) (.slice ap d cp) L d W3 hSW (hr.below hS hb3) hok.out hd (hp.below hS hb3))
  have hol := M7.openN_len hok.out
  generalize hO : M7.openN d L = O at *
  replace hO := Lib.hid hO
  have p0 := bxB.cell (i := 0) rfl
  have p1 := bxB.cell (i := 1) rfl
  replace hr := Lib.hid hr
  replace hp := Lib.hid hp
  replace ha := Lib.hid ha
  replace hSW := Lib.hid hSW
  go_upto_region 2 with (go_at_call 81; refine hOp.out.mono ?_; rintro e w4 ⟨vo, rfl, hto, hb4⟩)
  obtain ⟨ao, co, hvo⟩ := Row.slice hto
  rw [hol] at hvo
  subst hvo
  obtain ⟨-, hlo, hco⟩ := Row.len hto
  have hbo := bt hb3 hb4
  have hz4 := hb4.size
  replace bxB := bxB.below hb4 bxB.lt
  replace bxT := bxT.below hb4 bxT.lt
  replace bxR := bxR.below hb4 bxR.lt
  replace hto := Lib.hid hto
  clear hOp p0 p1 hb4
  have hlt4 : wo.heap.size + 1 + 1 < w4.heap.size := bxR.lt
  have p0 := bxB.cell (i := 0) rfl
  have p1 := bxB.cell (i := 1) rfl
  have k0 := bxT.cell (i := 0) rfl
  have k1 := bxT.cell (i := 1) rfl
  have k2 := bxT.cell (i := 2) rfl
  have k3 := bxT.cell (i := 3) rfl
  have r0 := bxR.cell (i := 0) rfl
  have r1 := bxR.cell (i := 1) rfl
  have f0 := bxR.free 0
  have f1 := bxR.free 1
  by_cases hk3 : kt = 3
  · subst hk3
    have hs1 : Hid (s' = ⟨M7.putN d (.mk 2 ⟨#[]⟩ [] tt []) L, d⟩) := hs'.out.symm
    go_upto_region 23 with (fail)
    obtain ⟨l8, hl8⟩ : ∃ l8, Hid (M7.putN d (.mk 2 ⟨#[]⟩ [] tt []) L = l8) := ⟨_, rfl⟩
    rw [hl8.out] at hs1
    have hcall : ∀ W, Below w4.heap.size w4 W → Calls Tryz.prog 83 #[.slice a L.length cap, .slice ap d cp, .agg #[.int .i64 2, .string ⟨#[]⟩, .slice none 0 0, .string tt, .slice none 0 0]] W (ShrP S l8 W) := fun W hW => by
      have hbW := bt hbo hW
      have h := ref07put d S (.slice a L.length cap) (.slice ap d cp) L (.mk 2 ⟨#[]⟩ [] tt []) (.slice none 0 0) (.slice none 0 0) W hok.out hd hw ht (fun b hb => Nat.lt_of_lt_of_le (hS b hb) hbW.size) (hr.out.below hS hbW) (hp.out.below hS hbW) ⟨Row.nil _ _ _, RepN.nil _ _⟩
      rw [hl8.out] at h
      exact h
    replace hcall := Lib.hid hcall
    replace bxB := Lib.hid bxB
    replace bxT := Lib.hid bxT
    replace bxR := Lib.hid bxR
    refine wp_region_known (n := 12) ([some (.pointer (some ⟨wo.heap.size, 0, none⟩)), some (.slice a L.length cap), some (.pointer (some ⟨wo.heap.size, 1, none⟩)), some (.slice ap d cp), some (.pointer (some ⟨wo.heap.size + 1, 3, none⟩)), some (.string tt), some (.agg #[.int .i64 2, .string ⟨#[]⟩, .slice none 0 0, .string tt, .slice none 0 0]), none, some (.pointer (some ⟨wo.heap.size, 1, none⟩)), some (.slice ap d cp), none, none] : List (Option Value)) (fun t => ⟨#[Value.agg #[Value.slice a L.length cap, Value.slice ap d cp], Value.agg #[Value.int IntKind.i64 3, Value.string nt, Value.slice at_ att.length ct, Value.string tt], Value.pointer (some ⟨wo.heap.size, 0, none⟩), Value.pointer (some ⟨wo.heap.size + 1, 0, none⟩), Value.pointer (some ⟨wo.heap.size + 1 + 1, 0, none⟩), Value.slice ao d co, Value.int IntKind.i64 (d : Int), undef, undef, undef, undef, undef, undef, Value.agg #[Value.slice a L.length cap, Value.slice ap d cp], Value.slice ao d co, Value.slice ao d co, Value.int IntKind.i64 (d : Int), Value.pointer (some ⟨wo.heap.size + 1, 0, none⟩), Value.int IntKind.i64 3, Value.bool false, Value.bool false, undef, undef, undef, undef, undef, undef, undef, undef, undef, undef, undef, undef, undef, undef, undef, undef, undef, undef, undef, undef, undef, undef, undef, undef, undef, undef, undef, undef, undef, undef, undef, undef, undef, undef, undef, undef, undef, undef, undef, undef, undef, undef, undef, undef, undef, undef, Value.bool false, Value.bool false, undef, undef, undef, undef, undef, undef, undef, undef, undef, undef, undef, undef, undef, undef, undef, undef, undef, undef, undef, undef, Value.bool true, Value.bool true, t 0, t 1, t 2, t 3, t 4, t 5, t 6, t 7, t 8, t 9, t 10, undef, undef, undef, undef, undef, undef, undef, undef, undef, undef, undef, undef, undef, undef], []⟩) (fun f t W => StK S w4 (wo.heap.size + 1 + 1) l8 (.slice ap d cp) f t W) (fun j => match j with | 0 => undef | 1 => undef | 2 => undef | 3 => undef | 4 => undef | 5 => undef | 6 => undef | 7 => undef | 8 => undef | 9 => undef | 10 => undef | _ => undef) (by kernel_rfl) (by rfl) (by rfl) (by kernel_rfl) rfl ?i0 ?step ?fin
    case i0 =>
      exact StK.start _ _ _ _ _ _
    case step =>
      intro j0 hj0 f t W hfi hwt hk2 hI
      have h11 := hI.notlast hj0 hfi
      obtain ⟨hlow, -⟩ := hI.1 h11
      have s0 := cell_of_below hlow p0 (by omega)
      have s1 := cell_of_below hlow p1 (by omega)
      have s3 := cell_of_below hlow k3 (by omega)
      obtain rfl | rfl | rfl | rfl | rfl | rfl | rfl | rfl | rfl | rfl | rfl | rfl : j0 = 0 ∨ j0 = 1 ∨ j0 = 2 ∨ j0 = 3 ∨ j0 = 4 ∨ j0 = 5 ∨ j0 = 6 ∨ j0 = 7 ∨ j0 = 8 ∨ j0 = 9 ∨ j0 = 10 ∨ j0 = 11 := by omega
      · -- operation 0
        clear hlow h11
        replace hI := Lib.hid hI
        replace hk2 := Lib.hid hk2
        clear hwt
        refine wpOp_step rfl (fun K hK => ?_)
        go_simp
        exact hK _ _ ⟨_, by simp [updT], hk2.out.at_ rfl, hI.out.same _ _ (by decide) (by decide) (by decide)⟩
      · -- operation 1
        have e0 : t 0 = .pointer (some ⟨wo.heap.size, 0, none⟩) := hk2 0 _ (hwt 0 (by kernel_rfl)) rfl
        clear hlow h11
        replace hI := Lib.hid hI
        replace hk2 := Lib.hid hk2
        clear hwt
        refine wpOp_step rfl (fun K hK => ?_)
        go_simp
        exact hK _ _ ⟨_, by simp [updT, e0], hk2.out.at_ rfl, hI.out.same _ _ (by decide) (by decide) (by decide)⟩
      · -- operation 2
        clear hlow h11
        replace hI := Lib.hid hI
        replace hk2 := Lib.hid hk2
        clear hwt
        refine wpOp_step rfl (fun K hK => ?_)
        go_simp
        exact hK _ _ ⟨_, by simp [updT], hk2.out.at_ rfl, hI.out.same _ _ (by decide) (by decide) (by decide)⟩
      · -- operation 3
        have e2 : t 2 = .pointer (some ⟨wo.heap.size, 1, none⟩) := hk2 2 _ (hwt 2 (by kernel_rfl)) rfl
        clear hlow h11
        replace hI := Lib.hid hI
        replace hk2 := Lib.hid hk2
        clear hwt
        refine wpOp_step rfl (fun K hK => ?_)
        go_simp
        exact hK _ _ ⟨_, by simp [updT, e2], hk2.out.at_ rfl, hI.out.same _ _ (by decide) (by decide) (by decide)⟩
      · -- operation 4
        clear hlow h11
        replace hI := Lib.hid hI
        replace hk2 := Lib.hid hk2
        clear hwt
        refine wpOp_step rfl (fun K hK => ?_)
        go_simp
        exact hK _ _ ⟨_, by simp [updT], hk2.out.at_ rfl, hI.out.same _ _ (by decide) (by decide) (by decide)⟩
      · -- operation 5
        have e4 : t 4 = .pointer (some ⟨wo.heap.size + 1, 3, none⟩) := hk2 4 _ (hwt 4 (by kernel_rfl)) rfl
        clear hlow h11
        replace hI := Lib.hid hI
        replace hk2 := Lib.hid hk2
        clear hwt
        refine wpOp_step rfl (fun K hK => ?_)
        go_simp
        exact hK _ _ ⟨_, by simp [updT, e4], hk2.out.at_ rfl, hI.out.same _ _ (by decide) (by decide) (by decide)⟩
      · -- operation 6
        have e5 : t 5 = .string tt := hk2 5 _ (hwt 5 (by kernel_rfl)) rfl
        clear hlow h11
        replace hI := Lib.hid hI
        replace hk2 := Lib.hid hk2
        clear hwt
        refine wpOp_step rfl (fun K hK => ?_)
        go_simp
        exact hK _ _ ⟨_, by simp [updT, e5], hk2.out.at_ rfl, hI.out.same _ _ (by decide) (by decide) (by decide)⟩
      · -- operation 7
        have e1 : t 1 = .slice a L.length cap := hk2 1 _ (hwt 1 (by kernel_rfl)) rfl
        have e3 : t 3 = .slice ap d cp := hk2 3 _ (hwt 3 (by kernel_rfl)) rfl
        have e6 : t 6 = .agg #[.int .i64 2, .string ⟨#[]⟩, .slice none 0 0, .string tt, .slice none 0 0] := hk2 6 _ (hwt 6 (by kernel_rfl)) rfl
        have hC := Lib.hid (hcall.out W hlow)
        replace h11 := Lib.hid h11
        replace hfi := Lib.hid hfi
        clear hlow
        replace hk2 := Lib.hid hk2
        replace hI := Lib.hid hI
        clear hwt
        refine wpOp_step rfl (fun K hK => ?_)
        go_simp
        refine hC.out.mono ?_
        rintro e w5 ⟨v5, rfl, hr5, hb5⟩
        exact hK _ _ ⟨v5, by simp [updT, e1, e3, e6], hk2.out.free rfl, hI.out.call h11.out hfi.out hr5 hb5⟩
      · -- operation 8
        clear hlow h11
        replace hI := Lib.hid hI
        replace hk2 := Lib.hid hk2
        clear hwt
        refine wpOp_step rfl (fun K hK => ?_)
        go_simp
        exact hK _ _ ⟨_, by simp [updT], hk2.out.at_ rfl, hI.out.same _ _ (by decide) (by decide) (by decide)⟩
      · -- operation 9
        have e8 : t 8 = .pointer (some ⟨wo.heap.size, 1, none⟩) := hk2 8 _ (hwt 8 (by kernel_rfl)) rfl
        clear hlow h11
        replace hI := Lib.hid hI
        replace hk2 := Lib.hid hk2
        clear hwt
        refine wpOp_step rfl (fun K hK => ?_)
        go_simp
        exact hK _ _ ⟨_, by simp [updT, e8], hk2.out.at_ rfl, hI.out.same _ _ (by decide) (by decide) (by decide)⟩
      · -- operation 10
        have e9 : t 9 = .slice ap d cp := hk2 9 _ (hwt 9 (by kernel_rfl)) rfl
        obtain ⟨a8, c8, e7⟩ := ((hI.1 h11).2 (hwt 7 (by kernel_rfl))).slice
        have hm := hI.made (hwt 7 (by kernel_rfl))
        rw [e7] at hm
        replace hm := Lib.hid hm
        clear hlow h11
        replace hk2 := Lib.hid hk2
        replace hI := Lib.hid hI
        clear hwt
        refine wpOp_step rfl (fun K hK => ?_)
        go_simp
        exact hK _ _ ⟨.agg #[.slice a8 l8.length c8, .slice ap d cp], by simp [updT, e7, e9], hk2.out.free rfl, hm.out⟩
      · -- operation 11
        have hall : ∀ j, j < 11 → f j = true := fun j hj => by
          rcases (by omega : j = 0 ∨ j = 1 ∨ j = 2 ∨ j = 3 ∨ j = 4 ∨ j = 5 ∨ j = 6 ∨ j = 7 ∨ j = 8 ∨ j = 9 ∨ j = 10) with rfl | rfl | rfl | rfl | rfl | rfl | rfl | rfl | rfl | rfl | rfl <;> exact hwt _ (by kernel_rfl)
        obtain ⟨a8, c8, e8⟩ := ((hI.1 h11).2 (hall 7 (by decide))).slice
        have e10 := (hI.2.1 (hall 10 (by decide))).2
        have hput := hI.put h11 hall undef
        rw [e8] at hput e10
        have bx := bxR.out.below hlow bxR.out.lt
        have g0 := bx.cell (i := 0) rfl
        have g1 := bx.cell (i := 1) rfl
        have x0 := bx.free 0
        have x1 := bx.free 1
        replace hput := Lib.hid hput
        replace bx := Lib.hid bx
        clear hall hlow h11
        replace hk2 := Lib.hid hk2
        replace hI := Lib.hid hI
        clear hwt
        refine wpOp_step rfl (fun K hK => ?_)
        go_simp
        exact hK _ _ ⟨undef, by simp [updT, e8, e10, ], hk2.out.free rfl, hput.out⟩
    case fin =>
      intro f t W hall hk2 hI
      have e10 := (hI.2.1 (hall 10 (by omega))).2
      obtain ⟨_, W0, hb0, hr8, rfl⟩ := hI.2.2 (hall 11 (by omega))
      clear hk2 hall hI
      obtain ⟨a8, c8, e8⟩ := hr8.slice
      rw [e8] at hr8 e10 ⊢
      rw [e10]
      clear e10 e8
      have bx2 := (bxR.out.below hb0 bxR.out.lt).two (.slice a8 l8.length c8) (.slice ap d cp)
      have q0 := bx2.cell (i := 0) rfl
      have q1 := bx2.cell (i := 1) rfl
      have hbf := Lib.hid (two_below (bt hbo hb0) (g := wo.heap.size + 1 + 1) (.slice a8 l8.length c8) (.slice ap d cp) (by omega))
      have hsz : ((W0.setCell ⟨wo.heap.size + 1 + 1, 0, none⟩ (.slice a8 l8.length c8)).setCell ⟨wo.heap.size + 1 + 1, 1, none⟩ (.slice ap d cp)).heap.size = W0.heap.size := by simp [World.setCell]
      have hfar : ∀ c, c ≠ wo.heap.size + 1 + 1 → ((W0.setCell ⟨wo.heap.size + 1 + 1, 0, none⟩ (.slice a8 l8.length c8)).setCell ⟨wo.heap.size + 1 + 1, 1, none⟩ (.slice ap d cp)).heap[c]? = W0.heap[c]? := fun c hc => by
        rw [Below.heap_setCell _ _ _ _ (by simpa using hc), Below.heap_setCell _ _ _ _ (by simpa using hc)]
      have hz8 := hb0.size
      have hk8 : Hid (RepN (fun b => S b ∨ (wo.heap.size ≤ b ∧ b < ((W0.setCell ⟨wo.heap.size + 1 + 1, 0, none⟩ (.slice a8 l8.length c8)).setCell ⟨wo.heap.size + 1 + 1, 1, none⟩ (.slice ap d cp)).heap.size)) ((W0.setCell ⟨wo.heap.size + 1 + 1, 0, none⟩ (.slice a8 l8.length c8)).setCell ⟨wo.heap.size + 1 + 1, 1, none⟩ (.slice ap d cp)) (.slice a8 l8.length c8) l8) := by
        refine (hr8.keep (fun c hc => hfar c ?_)).mono (fun c hc => ?_)
        · rcases hc with hc | hc
          · have := hS c hc
            omega
          · omega
        · rcases hc with hc | hc
          · exact Or.inl hc
          · exact Or.inr ⟨by omega, by rw [hsz]; exact hc.2⟩
      clear bx2 hr8 hsz hfar hb0
      try dsimp only
      go_wp2_with fail
      refine bodyPost_ret (v := .agg #[.slice a8 l8.length c8, .slice ap d cp]) (by simp [results, Tryz.results65, go_sem, q0, q1]) rfl ?_
      rw [hs1.out]
      refine ⟨_, _, rfl, hk8.out, ?_, hbf.out⟩
      have hpp : M7.pathN d l8 = M7.pathN d L := by rw [← hl8.out]; exact M7.put_path _ hok.out
      show Ints _ _ _ (M7.pathN d l8)
      rw [hpp]
      exact Row.mono (hp.out.below hS hbf.out) (fun b hb => Or.inl hb)
  by_cases hk4 : kt = 4
  · subst hk4
    have hs1 : Hid (s' = ⟨M7.putN d (.mk 3 ⟨#[]⟩ [] tt []) L, d⟩) := hs'.out.symm
    go_upto_region 25 with (fail)
    obtain ⟨l8, hl8⟩ : ∃ l8, Hid (M7.putN d (.mk 3 ⟨#[]⟩ [] tt []) L = l8) := ⟨_, rfl⟩
    rw [hl8.out] at hs1
    have hcall : ∀ W, Below w4.heap.size w4 W → Calls Tryz.prog 83 #[.slice a L.length cap, .slice ap d cp, .agg #[.int .i64 3, .string ⟨#[]⟩, .slice none 0 0, .string tt, .slice none 0 0]] W (ShrP S l8 W) := fun W hW => by
      have hbW := bt hbo hW
      have h := ref07put d S (.slice a L.length cap) (.slice ap d cp) L (.mk 3 ⟨#[]⟩ [] tt []) (.slice none 0 0) (.slice none 0 0) W hok.out hd hw ht (fun b hb => Nat.lt_of_lt_of_le (hS b hb) hbW.size) (hr.out.below hS hbW) (hp.out.below hS hbW) ⟨Row.nil _ _ _, RepN.nil _ _⟩
      rw [hl8.out] at h
      exact h
    replace hcall := Lib.hid hcall
    replace bxB := Lib.hid bxB
    replace bxT := Lib.hid bxT
    replace bxR := Lib.hid bxR
    refine wp_region_known (n := 12) ([some (.pointer (some ⟨wo.heap.size, 0, none⟩)), some (.slice a L.length cap), some (.pointer (some ⟨wo.heap.size, 1, none⟩)), some (.slice ap d cp), some (.pointer (some ⟨wo.heap.size + 1, 3, none⟩)), some (.string tt), some (.agg #[.int .i64 3, .string ⟨#[]⟩, .slice none 0 0, .string tt, .slice none 0 0]), none, some (.pointer (some ⟨wo.heap.size, 1, none⟩)), some (.slice ap d cp), none, none] : List (Option Value)) (fun t => ⟨#[Value.agg #[Value.slice a L.length cap, Value.slice ap d cp], Value.agg #[Value.int IntKind.i64 4, Value.string nt, Value.slice at_ att.length ct, Value.string tt], Value.pointer (some ⟨wo.heap.size, 0, none⟩), Value.pointer (some ⟨wo.heap.size + 1, 0, none⟩), Value.pointer (some ⟨wo.heap.size + 1 + 1, 0, none⟩), Value.slice ao d co, Value.int IntKind.i64 (d : Int), undef, undef, undef, undef, undef, undef, Value.agg #[Value.slice a L.length cap, Value.slice ap d cp], Value.slice ao d co, Value.slice ao d co, Value.int IntKind.i64 (d : Int), Value.pointer (some ⟨wo.heap.size + 1, 0, none⟩), Value.int IntKind.i64 4, Value.bool false, Value.bool false, undef, undef, undef, undef, undef, undef, undef, undef, undef, undef, undef, undef, undef, undef, undef, undef, undef, undef, undef, undef, undef, undef, undef, undef, undef, undef, undef, undef, undef, undef, undef, undef, undef, undef, undef, undef, undef, undef, undef, undef, undef, undef, undef, undef, undef, undef, Value.bool false, Value.bool false, undef, undef, undef, undef, undef, undef, undef, undef, undef, undef, undef, undef, undef, undef, undef, undef, undef, undef, undef, undef, Value.bool false, Value.bool false, undef, undef, undef, undef, undef, undef, undef, undef, undef, undef, undef, Value.bool true, Value.bool true, t 0, t 1, t 2, t 3, t 4, t 5, t 6, t 7, t 8, t 9, t 10, undef], []⟩) (fun f t W => StK S w4 (wo.heap.size + 1 + 1) l8 (.slice ap d cp) f t W) (fun j => match j with | 0 => undef | 1 => undef | 2 => undef | 3 => undef | 4 => undef | 5 => undef | 6 => undef | 7 => undef | 8 => undef | 9 => undef | 10 => undef | _ => undef) (by kernel_rfl) (by rfl) (by rfl) (by kernel_rfl) rfl ?i0 ?step ?fin
    case i0 =>
      exact StK.start _ _ _ _ _ _
    case step =>
      intro j0 hj0 f t W hfi hwt hk2 hI
      have h11 := hI.notlast hj0 hfi
      obtain ⟨hlow, -⟩ := hI.1 h11
      have s0 := cell_of_below hlow p0 (by omega)
      have s1 := cell_of_below hlow p1 (by omega)
      have s3 := cell_of_below hlow k3 (by omega)
      obtain rfl | rfl | rfl | rfl | rfl | rfl | rfl | rfl | rfl | rfl | rfl | rfl : j0 = 0 ∨ j0 = 1 ∨ j0 = 2 ∨ j0 = 3 ∨ j0 = 4 ∨ j0 = 5 ∨ j0 = 6 ∨ j0 = 7 ∨ j0 = 8 ∨ j0 = 9 ∨ j0 = 10 ∨ j0 = 11 := by omega
      · -- operation 0
        clear hlow h11
        replace hI := Lib.hid hI
        replace hk2 := Lib.hid hk2
        clear hwt
        refine wpOp_step rfl (fun K hK => ?_)
        go_simp
        exact hK _ _ ⟨_, by simp [updT], hk2.out.at_ rfl, hI.out.same _ _ (by decide) (by decide) (by decide)⟩
      · -- operation 1
        have e0 : t 0 = .pointer (some ⟨wo.heap.size, 0, none⟩) := hk2 0 _ (hwt 0 (by kernel_rfl)) rfl
        clear hlow h11
        replace hI := Lib.hid hI
        replace hk2 := Lib.hid hk2
        clear hwt
        refine wpOp_step rfl (fun K hK => ?_)
        go_simp
        exact hK _ _ ⟨_, by simp [updT, e0], hk2.out.at_ rfl, hI.out.same _ _ (by decide) (by decide) (by decide)⟩
      · -- operation 2
        clear hlow h11
        replace hI := Lib.hid hI
        replace hk2 := Lib.hid hk2
        clear hwt
        refine wpOp_step rfl (fun K hK => ?_)
        go_simp
        exact hK _ _ ⟨_, by simp [updT], hk2.out.at_ rfl, hI.out.same _ _ (by decide) (by decide) (by decide)⟩
      · -- operation 3
        have e2 : t 2 = .pointer (some ⟨wo.heap.size, 1, none⟩) := hk2 2 _ (hwt 2 (by kernel_rfl)) rfl
        clear hlow h11
        replace hI := Lib.hid hI
        replace hk2 := Lib.hid hk2
        clear hwt
        refine wpOp_step rfl (fun K hK => ?_)
        go_simp
        exact hK _ _ ⟨_, by simp [updT, e2], hk2.out.at_ rfl, hI.out.same _ _ (by decide) (by decide) (by decide)⟩
      · -- operation 4
        clear hlow h11
        replace hI := Lib.hid hI
        replace hk2 := Lib.hid hk2
        clear hwt
        refine wpOp_step rfl (fun K hK => ?_)
        go_simp
        exact hK _ _ ⟨_, by simp [updT], hk2.out.at_ rfl, hI.out.same _ _ (by decide) (by decide) (by decide)⟩
      · -- operation 5
        have e4 : t 4 = .pointer (some ⟨wo.heap.size + 1, 3, none⟩) := hk2 4 _ (hwt 4 (by kernel_rfl)) rfl
        clear hlow h11
        replace hI := Lib.hid hI
        replace hk2 := Lib.hid hk2
        clear hwt
        refine wpOp_step rfl (fun K hK => ?_)
        go_simp
        exact hK _ _ ⟨_, by simp [updT, e4], hk2.out.at_ rfl, hI.out.same _ _ (by decide) (by decide) (by decide)⟩
      · -- operation 6
        have e5 : t 5 = .string tt := hk2 5 _ (hwt 5 (by kernel_rfl)) rfl
        clear hlow h11
        replace hI := Lib.hid hI
        replace hk2 := Lib.hid hk2
        clear hwt
        refine wpOp_step rfl (fun K hK => ?_)
        go_simp
        exact hK _ _ ⟨_, by simp [updT, e5], hk2.out.at_ rfl, hI.out.same _ _ (by decide) (by decide) (by decide)⟩
      · -- operation 7
        have e1 : t 1 = .slice a L.length cap := hk2 1 _ (hwt 1 (by kernel_rfl)) rfl
        have e3 : t 3 = .slice ap d cp := hk2 3 _ (hwt 3 (by kernel_rfl)) rfl
        have e6 : t 6 = .agg #[.int .i64 3, .string ⟨#[]⟩, .slice none 0 0, .string tt, .slice none 0 0] := hk2 6 _ (hwt 6 (by kernel_rfl)) rfl
        have hC := Lib.hid (hcall.out W hlow)
        replace h11 := Lib.hid h11
        replace hfi := Lib.hid hfi
        clear hlow
        replace hk2 := Lib.hid hk2
        replace hI := Lib.hid hI
        clear hwt
        refine wpOp_step rfl (fun K hK => ?_)
        go_simp
        refine hC.out.mono ?_
        rintro e w5 ⟨v5, rfl, hr5, hb5⟩
        exact hK _ _ ⟨v5, by simp [updT, e1, e3, e6], hk2.out.free rfl, hI.out.call h11.out hfi.out hr5 hb5⟩
      · -- operation 8
        clear hlow h11
        replace hI := Lib.hid hI
        replace hk2 := Lib.hid hk2
        clear hwt
        refine wpOp_step rfl (fun K hK => ?_)
        go_simp
        exact hK _ _ ⟨_, by simp [updT], hk2.out.at_ rfl, hI.out.same _ _ (by decide) (by decide) (by decide)⟩
      · -- operation 9
        have e8 : t 8 = .pointer (some ⟨wo.heap.size, 1, none⟩) := hk2 8 _ (hwt 8 (by kernel_rfl)) rfl
        clear hlow h11
        replace hI := Lib.hid hI
        replace hk2 := Lib.hid hk2
        clear hwt
        refine wpOp_step rfl (fun K hK => ?_)
        go_simp
        exact hK _ _ ⟨_, by simp [updT, e8], hk2.out.at_ rfl, hI.out.same _ _ (by decide) (by decide) (by decide)⟩
      · -- operation 10
        have e9 : t 9 = .slice ap d cp := hk2 9 _ (hwt 9 (by kernel_rfl)) rfl
        obtain ⟨a8, c8, e7⟩ := ((hI.1 h11).2 (hwt 7 (by kernel_rfl))).slice
        have hm := hI.made (hwt 7 (by kernel_rfl))
        rw [e7] at hm
        replace hm := Lib.hid hm
        clear hlow h11
        replace hk2 := Lib.hid hk2
        replace hI := Lib.hid hI
        clear hwt
        refine wpOp_step rfl (fun K hK => ?_)
        go_simp
        exact hK _ _ ⟨.agg #[.slice a8 l8.length c8, .slice ap d cp], by simp [updT, e7, e9], hk2.out.free rfl, hm.out⟩
      · -- operation 11
        have hall : ∀ j, j < 11 → f j = true := fun j hj => by
          rcases (by omega : j = 0 ∨ j = 1 ∨ j = 2 ∨ j = 3 ∨ j = 4 ∨ j = 5 ∨ j = 6 ∨ j = 7 ∨ j = 8 ∨ j = 9 ∨ j = 10) with rfl | rfl | rfl | rfl | rfl | rfl | rfl | rfl | rfl | rfl | rfl <;> exact hwt _ (by kernel_rfl)
        obtain ⟨a8, c8, e8⟩ := ((hI.1 h11).2 (hall 7 (by decide))).slice
        have e10 := (hI.2.1 (hall 10 (by decide))).2
        have hput := hI.put h11 hall undef
        rw [e8] at hput e10
        have bx := bxR.out.below hlow bxR.out.lt
        have g0 := bx.cell (i := 0) rfl
        have g1 := bx.cell (i := 1) rfl
        have x0 := bx.free 0
        have x1 := bx.free 1
        replace hput := Lib.hid hput
        replace bx := Lib.hid bx
        clear hall hlow h11
        replace hk2 := Lib.hid hk2
        replace hI := Lib.hid hI
        clear hwt
        refine wpOp_step rfl (fun K hK => ?_)
        go_simp
        exact hK _ _ ⟨undef, by simp [updT, e8, e10, ], hk2.out.free rfl, hput.out⟩
    case fin =>
      intro f t W hall hk2 hI
      have e10 := (hI.2.1 (hall 10 (by omega))).2
      obtain ⟨_, W0, hb0, hr8, rfl⟩ := hI.2.2 (hall 11 (by omega))
      clear hk2 hall hI
      obtain ⟨a8, c8, e8⟩ := hr8.slice
      rw [e8] at hr8 e10 ⊢
      rw [e10]
      clear e10 e8
      have bx2 := (bxR.out.below hb0 bxR.out.lt).two (.slice a8 l8.length c8) (.slice ap d cp)
      have q0 := bx2.cell (i := 0) rfl
      have q1 := bx2.cell (i := 1) rfl
      have hbf := Lib.hid (two_below (bt hbo hb0) (g := wo.heap.size + 1 + 1) (.slice a8 l8.length c8) (.slice ap d cp) (by omega))
      have hsz : ((W0.setCell ⟨wo.heap.size + 1 + 1, 0, none⟩ (.slice a8 l8.length c8)).setCell ⟨wo.heap.size + 1 + 1, 1, none⟩ (.slice ap d cp)).heap.size = W0.heap.size := by simp [World.setCell]
      have hfar : ∀ c, c ≠ wo.heap.size + 1 + 1 → ((W0.setCell ⟨wo.heap.size + 1 + 1, 0, none⟩ (.slice a8 l8.length c8)).setCell ⟨wo.heap.size + 1 + 1, 1, none⟩ (.slice ap d cp)).heap[c]? = W0.heap[c]? := fun c hc => by
        rw [Below.heap_setCell _ _ _ _ (by simpa using hc), Below.heap_setCell _ _ _ _ (by simpa using hc)]
      have hz8 := hb0.size
      have hk8 : Hid (RepN (fun b => S b ∨ (wo.heap.size ≤ b ∧ b < ((W0.setCell ⟨wo.heap.size + 1 + 1, 0, none⟩ (.slice a8 l8.length c8)).setCell ⟨wo.heap.size + 1 + 1, 1, none⟩ (.slice ap d cp)).heap.size)) ((W0.setCell ⟨wo.heap.size + 1 + 1, 0, none⟩ (.slice a8 l8.length c8)).setCell ⟨wo.heap.size + 1 + 1, 1, none⟩ (.slice ap d cp)) (.slice a8 l8.length c8) l8) := by
        refine (hr8.keep (fun c hc => hfar c ?_)).mono (fun c hc => ?_)
        · rcases hc with hc | hc
          · have := hS c hc
            omega
          · omega
        · rcases hc with hc | hc
          · exact Or.inl hc
          · exact Or.inr ⟨by omega, by rw [hsz]; exact hc.2⟩
      clear bx2 hr8 hsz hfar hb0
      try dsimp only
      go_wp2_with fail
      refine bodyPost_ret (v := .agg #[.slice a8 l8.length c8, .slice ap d cp]) (by simp [results, Tryz.results65, go_sem, q0, q1]) rfl ?_
      rw [hs1.out]
      refine ⟨_, _, rfl, hk8.out, ?_, hbf.out⟩
      have hpp : M7.pathN d l8 = M7.pathN d L := by rw [← hl8.out]; exact M7.put_path _ hok.out
      show Ints _ _ _ (M7.pathN d l8)
      rw [hpp]
      exact Row.mono (hp.out.below hS hbf.out) (fun b hb => Or.inl hb)
  by_cases hk1 : kt = 1
  · subst hk1
    have hs1 : Hid (s' = ⟨M7.putN (M7.closeAt O nt d) (.mk 1 nt att ⟨#[]⟩ []) L, if M3.voidB nt.data.toList then M7.closeAt O nt d else M7.closeAt O nt d + 1⟩) := by
      show _ = _
      rw [← hs'.out, ← hO.out]; rfl
    obtain ⟨wf, hwf⟩ : ∃ W, Hid (W = w4) := ⟨_, rfl⟩
    replace bxB := Lib.hid bxB
    replace bxT := Lib.hid bxT
    replace bxR := Lib.hid bxR
    replace hbo := Lib.hid hbo
    clear hs' hwf hk3
    have k1' := k1
    go_upto_block 1 with (fail)
    obtain ⟨cn, hcn⟩ : ∃ cn, Hid (M7.closeAt O nt d = cn) := ⟨_, rfl⟩
    rw [hcn.out] at hs1
    go_cut [6] (fun s6 wx => s6 = .int .i64 (cn : Int) ∧ Below w4.heap.size w4 wx)
    case first =>
      go_wp2_with fail
      clear p0 p1 k0 k1 k2 k3 r0 r1 f0 f1
      go_loopw [6] (fun u6 wr => ∃ k : Nat, k ≤ d ∧ u6 = .int .i64 (k : Int) ∧ cn = M7.closeAt O nt k ∧ Below w4.heap.size w4 wr) (fun u6 _ => (intOf u6).toNat)
      case atStart => exact ⟨d, Nat.le_refl _, rfl, hcn.out.symm, Below.refl _ _⟩
      case round =>
        obtain ⟨k, hk, rfl, hke, hb⟩ := hrel
        have hz := hb.size
        obtain ⟨wr', rfl⟩ : ∃ W : World, W = wr := ⟨_, rfl⟩
        cases k with
        | zero =>
          have hn0 : cn = 0 := hke
          subst hn0
          clear hke hcn hs1 hz
          go_upto_region 5 with (fail)
          go_quiet (fail)
          have hbq := below_drewN hb nq
          go_wp2_with fail
          go_meet
          case rel => exact ⟨rfl, hbq⟩
        | succ i =>
          have hio : i < O.length := by omega
          obtain ⟨bo, oo, eo, hob, c0⟩ := Row.atS hto.out i hio
          subst eo
          have hI0 : (0 : Int) ≤ (i : Int) := by omega
          have hI1 : (i : Int) < (d : Int) := by omega
          have hgt : (0 : Int) < (i : Int) + 1 := by omega
          have hwi : IntKind.i64.wrap (i : Int) = (i : Int) := IntWalk.i64_in _ ⟨by omega, by omega⟩
          have hoi : O.getD i ⟨#[]⟩ = O[i] := by simp [List.getD, hio]
          rw [M7.closeAt, hoi] at hke
          generalize O[i] = oi at *
          have hCl := Lib.hid (fun W => ref06Closes oi nt W)
          generalize M6.closesB oi.data.toList nt.data.toList = cb at *
          replace hke := Lib.hid hke
          clear hoi
          go_upto_region 5 with (fail)
          refine wp_region_known (n := 12) ([some (.int .i64 ((i + 1 : Nat) : Int)), some (.bool true), some (.bool true), some (Value.slice (some ⟨bo, oo, none⟩) d co), some (.int .i64 ((i + 1 : Nat) : Int)), some (.int .i64 (i : Int)), some (.pointer (some ⟨bo, oo + i, none⟩)), some (.string oi), some (.pointer (some ⟨wo.heap.size + 1, 1, none⟩)), some (.string nt), some (.bool cb), some (.bool cb)] : List (Option Value)) (fun t => ⟨#[Value.agg #[Value.slice a L.length cap, Value.slice ap d cp], Value.agg #[Value.int IntKind.i64 1, Value.string nt, Value.slice at_ att.length ct, Value.string tt], Value.pointer (some ⟨wo.heap.size, 0, none⟩), Value.pointer (some ⟨wo.heap.size + 1, 0, none⟩), Value.pointer (some ⟨wo.heap.size + 1 + 1, 0, none⟩), Value.slice (some ⟨bo, oo, none⟩) d co, .int .i64 ((i + 1 : Nat) : Int), undef, undef, undef, undef, undef, undef, Value.agg #[Value.slice a L.length cap, Value.slice ap d cp], Value.slice (some ⟨bo, oo, none⟩) d co, Value.slice (some ⟨bo, oo, none⟩) d co, Value.int IntKind.i64 (d : Int), Value.pointer (some ⟨wo.heap.size + 1, 0, none⟩), Value.int IntKind.i64 1, Value.bool true, Value.bool true, t 0, t 1, t 2, t 3, t 4, t 5, t 6, t 7, t 8, t 9, t 10, t 11, u33, u34, undef, undef, undef, undef, undef, undef, undef, undef, undef, undef, undef, undef, undef, undef, undef, undef, undef, undef, undef, undef, undef, undef, undef, undef, undef, undef, undef, undef, undef, undef, undef, undef, undef, undef, undef, undef, undef, undef, undef, undef, undef, undef, undef, undef, undef, undef, undef, undef, undef, undef, undef, undef, undef, undef, undef, undef, undef, undef, undef, undef, undef, undef, undef, undef, undef, undef, undef, undef, undef, undef, undef, undef, undef, undef, undef, undef, undef, undef, undef, undef, undef], []⟩) (fun f t W => Below w4.heap.size w4 W) (fun j => match j with | 0 => u21 | 1 => u22 | 2 => u23 | 3 => u24 | 4 => u25 | 5 => u26 | 6 => u27 | 7 => u28 | 8 => u29 | 9 => u30 | 10 => u31 | 11 => u32 | _ => undef) (by kernel_rfl) (by rfl) (by rfl) (by kernel_rfl) rfl ?i0 ?step ?fin
          case i0 =>
            exact hb.drew
          case step =>
            intro j0 hj0 f t W hfi hwt hk2 hI
            have s1 := cell_of_below hI k1' (by omega)
            have s4 := cell_of_below hI c0 (by omega)
            obtain rfl | rfl | rfl | rfl | rfl | rfl | rfl | rfl | rfl | rfl | rfl | rfl : j0 = 0 ∨ j0 = 1 ∨ j0 = 2 ∨ j0 = 3 ∨ j0 = 4 ∨ j0 = 5 ∨ j0 = 6 ∨ j0 = 7 ∨ j0 = 8 ∨ j0 = 9 ∨ j0 = 10 ∨ j0 = 11 := by omega
            · -- operation 0
              replace hI := Lib.hid hI
              replace hk2 := Lib.hid hk2
              clear hwt
              refine wpOp_step rfl (fun K hK => ?_)
              go_simp
              exact hK _ _ ⟨_, by simp [updT], hk2.out.at_ rfl, hI.out⟩
            · -- operation 1
              have e0 : t 0 = .int .i64 ((i + 1 : Nat) : Int) := hk2 0 _ (hwt 0 (by kernel_rfl)) rfl
              replace hI := Lib.hid hI
              replace hk2 := Lib.hid hk2
              clear hwt
              refine wpOp_step rfl (fun K hK => ?_)
              go_simp
              exact hK _ _ ⟨_, by simp [updT, e0], hk2.out.at_ rfl, hI.out⟩
            · -- operation 2
              have e1 : t 1 = .bool true := hk2 1 _ (hwt 1 (by kernel_rfl)) rfl
              replace hI := Lib.hid hI
              replace hk2 := Lib.hid hk2
              clear hwt
              refine wpOp_step rfl (fun K hK => ?_)
              go_simp
              exact hK _ _ ⟨_, by simp [updT, e1], hk2.out.at_ rfl, hI.out⟩
            · -- operation 3
              have e2 : t 2 = .bool true := hk2 2 _ (hwt 2 (by kernel_rfl)) rfl
              replace hI := Lib.hid hI
              replace hk2 := Lib.hid hk2
              clear hwt
              refine wpOp_step rfl (fun K hK => ?_)
              go_simp
              exact hK _ _ ⟨_, by simp [updT, e2], hk2.out.at_ rfl, hI.out⟩
            · -- operation 4
              have e2 : t 2 = .bool true := hk2 2 _ (hwt 2 (by kernel_rfl)) rfl
              replace hI := Lib.hid hI
              replace hk2 := Lib.hid hk2
              clear hwt
              refine wpOp_step rfl (fun K hK => ?_)
              go_simp
              exact hK _ _ ⟨_, by simp [updT, e2], hk2.out.at_ rfl, hI.out⟩
            · -- operation 5
              have e2 : t 2 = .bool true := hk2 2 _ (hwt 2 (by kernel_rfl)) rfl
              have e4 : t 4 = .int .i64 ((i + 1 : Nat) : Int) := hk2 4 _ (hwt 4 (by kernel_rfl)) rfl
              replace hI := Lib.hid hI
              replace hk2 := Lib.hid hk2
              clear hwt
              refine wpOp_step rfl (fun K hK => ?_)
              go_simp
              exact hK _ _ ⟨_, by simp [updT, e2, e4], hk2.out.at_ rfl, hI.out⟩
            · -- operation 6
              have e2 : t 2 = .bool true := hk2 2 _ (hwt 2 (by kernel_rfl)) rfl
              have e3 : t 3 = Value.slice (some ⟨bo, oo, none⟩) d co := hk2 3 _ (hwt 3 (by kernel_rfl)) rfl
              have e5 : t 5 = .int .i64 (i : Int) := hk2 5 _ (hwt 5 (by kernel_rfl)) rfl
              replace hI := Lib.hid hI
              replace hk2 := Lib.hid hk2
              clear hwt
              refine wpOp_step rfl (fun K hK => ?_)
              go_simp
              exact hK _ _ ⟨_, by simp [updT, e2, e3, e5], hk2.out.at_ rfl, hI.out⟩
            · -- operation 7
              have e2 : t 2 = .bool true := hk2 2 _ (hwt 2 (by kernel_rfl)) rfl
              have e6 : t 6 = .pointer (some ⟨bo, oo + i, none⟩) := hk2 6 _ (hwt 6 (by kernel_rfl)) rfl
              replace hI := Lib.hid hI
              replace hk2 := Lib.hid hk2
              clear hwt
              refine wpOp_step rfl (fun K hK => ?_)
              go_simp
              exact hK _ _ ⟨_, by simp [updT, e2, e6], hk2.out.at_ rfl, hI.out⟩
            · -- operation 8
              have e2 : t 2 = .bool true := hk2 2 _ (hwt 2 (by kernel_rfl)) rfl
              replace hI := Lib.hid hI
              replace hk2 := Lib.hid hk2
              clear hwt
              refine wpOp_step rfl (fun K hK => ?_)
              go_simp
              exact hK _ _ ⟨_, by simp [updT, e2], hk2.out.at_ rfl, hI.out⟩
            · -- operation 9
              have e2 : t 2 = .bool true := hk2 2 _ (hwt 2 (by kernel_rfl)) rfl
              have e8 : t 8 = .pointer (some ⟨wo.heap.size + 1, 1, none⟩) := hk2 8 _ (hwt 8 (by kernel_rfl)) rfl
              replace hI := Lib.hid hI
              replace hk2 := Lib.hid hk2
              clear hwt
              refine wpOp_step rfl (fun K hK => ?_)
              go_simp
              exact hK _ _ ⟨_, by simp [updT, e2, e8], hk2.out.at_ rfl, hI.out⟩
            · -- operation 10
              have e2 : t 2 = .bool true := hk2 2 _ (hwt 2 (by kernel_rfl)) rfl
              have e7 : t 7 = .string oi := hk2 7 _ (hwt 7 (by kernel_rfl)) rfl
              have e9 : t 9 = .string nt := hk2 9 _ (hwt 9 (by kernel_rfl)) rfl
              replace hk2 := Lib.hid hk2
              replace hI := Lib.hid hI
              clear hwt
              refine wpOp_step rfl (fun K hK => ?_)
              go_simp
              refine (hCl.out _).mono ?_
              rintro e w5 ⟨rfl, hb5⟩
              exact hK _ _ ⟨_, by simp [updT, e2, e7, e9], hk2.out.at_ rfl, hI.out.trans (hb5.mono hI.out.size)⟩
            · -- operation 11
              have e2 : t 2 = .bool true := hk2 2 _ (hwt 2 (by kernel_rfl)) rfl
              have e10 : t 10 = .bool cb := hk2 10 _ (hwt 10 (by kernel_rfl)) rfl
              replace hI := Lib.hid hI
              replace hk2 := Lib.hid hk2
              clear hwt
              refine wpOp_step rfl (fun K hK => ?_)
              go_simp
              exact hK _ _ ⟨_, by simp [updT, e2, e10], hk2.out.at_ rfl, hI.out⟩
          case fin =>
            intro f t W hall hk2 hI
            have e11 := hk2 11 _ (hall 11 (by omega)) rfl
            clear hk2 hall
            try dsimp only
            rw [e11]
            clear e11
            cases cb
            · go_wp2_with fail
              go_meet
              case rel => exact ⟨by rw [hke.out]; rfl, hI⟩
            · go_wp2_with fail
              go_roundw
              case rel => exact ⟨i, by omega, by go_num, by rw [hke.out]; rfl, hI⟩
              case measure => simp [intOf]
    case rest =>
      obtain ⟨e6, hb⟩ := hcut
      subst e6
      rename World => wx
      have hcd : cn ≤ d := by rw [← hcn.out]; exact M7.closeAt_le _ _ _
      have bB := bxB.out.below hb bxB.out.lt
      have bT := bxT.out.below hb bxT.out.lt
      have bR := Lib.hid (bxR.out.below hb bxR.out.lt)
      have hbX : Below wo.heap.size wo wx := bt hbo.out hb
      have hoc := M7.okD_pre hok.out hcd
      have hplc : (M7.pathN cn L).length = cn := M7.pathN_len hoc
      have hpc : Ints S wx (.slice ap cn cp) (M7.pathN cn L) := by
        rw [M7.pathN_take hok.out hcd]; exact (hp.out.below hS hbX).take cn (by omega)
      have hSx : ∀ b, S b → b < wx.heap.size := fun b h => Nat.lt_of_lt_of_le (hS b h) hbX.size
      have hrx := hr.out.below hS hbX
      have hcnt := Lib.hid (ref07count S (.slice a L.length cap) (.slice ap cn cp) L cn wx hSx hrx hoc hpc)
      have hput := ref07put cn S (.slice a L.length cap) (.slice ap cn cp) L (.mk 1 nt att ⟨#[]⟩ []) (.slice at_ att.length ct) (.slice none 0 0) wx hoc (by omega) hw (by show dtN L + 0 ≤ _; omega) hSx hrx hpc ⟨ha.out.below hS hbX, RepN.nil _ _⟩
      have hpp : M7.pathN cn (M7.putN cn (.mk 1 nt att ⟨#[]⟩ []) L) = M7.pathN cn L := M7.put_path _ hoc
      have hpo : M7.pathN (cn + 1) (M7.putN cn (.mk 1 nt att ⟨#[]⟩ []) L) = M7.pathN cn L ++ [(M7.levelN cn L).length] := (M7.put_open _ hoc rfl).2.2
      obtain ⟨l8, hl8⟩ : ∃ l8, M7.putN cn (.mk 1 nt att ⟨#[]⟩ []) L = l8 := ⟨_, rfl⟩
      rw [hl8] at hs1 hput hpp hpo
      replace hput := Lib.hid hput
      have hq : ap = none → cp = 0 := by
        obtain ⟨_, a', c', e, h2, h3, h4, _⟩ := hp.out
        simp only [Value.slice.injEq] at e
        obtain ⟨rfl, -, rfl⟩ := e
        exact h4
      have p0 := bB.cell (i := 0) rfl
      have p1 := bB.cell (i := 1) rfl
      have k1 := bT.cell (i := 1) rfl
      have k2 := bT.cell (i := 2) rfl
      have hz4x := hb.size
      generalize hpa : M7.pathN cn L = pa at *
      have hlvb : (M7.levelN cn L).length ≤ 1000000 := Nat.le_trans (level_le cn L) (by omega)
      generalize hlv : (M7.levelN cn L).length = lv at *
      replace hpc := Lib.hid hpc
      replace hrx := Lib.hid hrx
      replace bB := Lib.hid bB
      replace bT := Lib.hid bT
      replace hpp := Lib.hid hpp
      replace hpo := Lib.hid hpo
      replace hs1 := Lib.hid hs1.out
      clear hl8 hpa hlv hoc
      go_upto_region 7 with (fail)
      go_cut [7] from 35 to 38 (fun s7 wy => s7 = .slice ap cn cp ∧ wx = wy)
      case first =>
        cases ap with
        | none =>
          obtain rfl := hq rfl
          obtain rfl : cn = 0 := by omega
          go_wp2_with fail
          go_meet
          case rel => exact ⟨rfl, rfl⟩
        | some pA =>
          have hcc : (cn : Int) ≤ (cp : Int) := by omega
          go_wp2_with fail
          go_meet
          case rel => exact ⟨rfl, rfl⟩
      case rest =>
        obtain ⟨rfl, rfl⟩ := hcut
        go_upto_region 9 with (go_at_call 82; refine hcnt.out.mono ?_; rintro e w' ⟨rfl, rfl⟩)
        go_upto_region 10 with (go_at_call 83; refine hput.out.mono ?_; rintro e w5 ⟨v5, rfl, hr5, hb5⟩)
        obtain ⟨a5, c5, rfl⟩ := hr5.slice
        have hb05 : Below wo.heap.size wo w5 := bt hbX hb5
        have hz5 := hb5.size
        have hpc5 : Ints S w5 (.slice ap cn cp) pa := Row.keep hpc.out (fun b h => hb5.block b (hSx b h))
        have hrow5 : Row S w5 1 (.slice ap cn cp) cn (pa.map fun k : Nat => Value.int .i64 (k : Int)) := by
          have h := hpc5
          unfold Ints at h
          rwa [hplc] at h
        have hone5 : ∀ u ∈ (pa.map fun k : Nat => Value.int .i64 (k : Int)), u.oneCell' = true := by
          intro u hu
          obtain ⟨k, -, rfl⟩ := List.mem_map.1 hu
          rfl
        have hnil : w5.ownsRow w5.heap.size 3 1 (.slice none 0 0) 0 [] := World.ownsRow_nil _ _ _ _
        have bR5 := bR.out.below hb5 bR.out.lt
        have bT5 := bT.out.below hb5 bT.out.lt
        have hfin : Hid (∀ (wz : World) (az : Option Addr) (nz cz : Nat) (l' : List Nat), Below w5.heap.size w5 wz → wz.ownsRow w5.heap.size 3 1 (.slice az nz cz) nz (l'.map fun k : Nat => Value.int .i64 (k : Int)) → nz = l'.length → l' = M7.pathN s'.d s'.L →
            Box wz (wo.heap.size + 1 + 1) 84 [.slice none 0 0, .slice none 0 0] ∧
            (∀ W, W = (wz.setCell ⟨wo.heap.size + 1 + 1, 0, none⟩ (.slice a5 l8.length c5)).setCell ⟨wo.heap.size + 1 + 1, 1, none⟩ (.slice az nz cz) → Box W (wo.heap.size + 1 + 1) 84 [.slice a5 l8.length c5, .slice az nz cz] ∧ ShrB S s' wo (.returned (.agg #[.slice a5 l8.length c5, .slice az nz cz])) W)) := by
          intro wz az nz cz l' hbz hown hnz hl'
          have bRz := bR5.below hbz (by have := bR5.lt; omega)
          refine ⟨bRz, ?_⟩
          rintro W rfl
          refine ⟨bRz.two _ _, _, _, rfl, ?_, ?_, two_below (bt hb05 hbz) _ _ (by omega)⟩
          · rw [hs1.out]
            have hlt5 := bR5.lt
            have hzz := hbz.size
            have hsz : ((wz.setCell ⟨wo.heap.size + 1 + 1, 0, none⟩ (.slice a5 l8.length c5)).setCell ⟨wo.heap.size + 1 + 1, 1, none⟩ (.slice az nz cz)).heap.size = wz.heap.size := by simp [World.setCell]
            refine (hr5.keep (fun c hc => ?_)).mono (fun c hc => ?_)
            · have hne : c ≠ wo.heap.size + 1 + 1 ∧ c < w5.heap.size := by
                rcases hc with hc | hc
                · have := hS c hc
                  exact ⟨by omega, by omega⟩
                · exact ⟨by omega, hc.2⟩
              rw [Below.heap_setCell _ _ _ _ (by simpa using hne.1), Below.heap_setCell _ _ _ _ (by simpa using hne.1), hbz.block c hne.2]
            · rcases hc with hc | hc
              · exact Or.inl hc
              · exact Or.inr ⟨by have := hbX.size; omega, by rw [hsz]; omega⟩
          · rw [← hl']
            have hlt5 := bR5.lt
            have hzz := hbz.size
            have hsz : ((wz.setCell ⟨wo.heap.size + 1 + 1, 0, none⟩ (.slice a5 l8.length c5)).setCell ⟨wo.heap.size + 1 + 1, 1, none⟩ (.slice az nz cz)).heap.size = wz.heap.size := by simp [World.setCell]
            have h1 := Row.own (own_keep hown (w' := (wz.setCell ⟨wo.heap.size + 1 + 1, 0, none⟩ (.slice a5 l8.length c5)).setCell ⟨wo.heap.size + 1 + 1, 1, none⟩ (.slice az nz cz)) (fun g hg => by
              have hg1 := (hown.lt g hg).1
              have hg2 : g ≠ wo.heap.size + 1 + 1 := by omega
              rw [Below.heap_setCell _ _ _ _ (by simpa using hg2), Below.heap_setCell _ _ _ _ (by simpa using hg2)])) (S := fun b => S b ∨ (wo.heap.size ≤ b ∧ b < ((wz.setCell ⟨wo.heap.size + 1 + 1, 0, none⟩ (.slice a5 l8.length c5)).setCell ⟨wo.heap.size + 1 + 1, 1, none⟩ (.slice az nz cz)).heap.size)) (fun g hg => Or.inr ⟨by have := (hown.lt g hg).1; omega, by rw [hsz]; exact (hown.lt g hg).2⟩)
            unfold Ints
            rw [← hnz]
            exact h1
        have k1 := bT5.cell (i := 1) rfl
        clear hcnt hput hr5 p0 p1 k1' k2 hrx
        have h63 : 0 + cn ≤ 9223372036854775807 := by omega
        have hby : (0 + cn) * 8 ≤ 140737488355328 := by omega
        go_upto_region 12 with (at_builtin; refine wpList_spread w5 1 S rfl _ _ 82 3 rfl w5.heap.size Tryz.underlying82 infoInt7 rfl (by decide) _ 0 [] rfl hnil _ cn _ rfl hrow5 hone5 h63 ?_ (Nat.le_refl _) ?_; exact hby; intro u7 w6 hown6 hgrow6)
        have hb56 : Below w5.heap.size w5 w6 := below_own (Below.refl _ _) hnil hgrow6 (Nat.le_refl _) (Nat.le_refl _)
        rw [Nat.zero_add, List.nil_append] at hown6
        obtain ⟨a7, c7, rfl⟩ := own_slice hown6
        have hz6 := hb56.size
        have bT6 := bT5.below hb56 bT5.lt
        replace k1 := bT6.cell (i := 1) rfl
        clear hgrow6
        have hV : Hid (Calls Tryz.prog 62 #[.string nt] w6 fun e w' => e = .returned (.bool (M3.voidB nt.data.toList)) ∧ w6 = w') := (ref03Void nt w6).mono fun _ _ h => ⟨h.1, h.2.symm⟩
        generalize M3.voidB nt.data.toList = vb at *
        go_upto_region 13 with (go_at_call 62; refine hV.out.mono ?_; rintro e w' ⟨rfl, rfl⟩)
        clear hV bT6 k1 bT5 hrow5 hone5 hpc5 hnil
        cases vb
        · have h63' : cn + 1 ≤ 9223372036854775807 := by omega
          have hby' : (cn + 1) * 8 ≤ 140737488355328 := by omega
          have hone1 : ∀ u ∈ ([.int .i64 (lv : Int)] : List Value), u.oneCell' = true := by simp [Value.oneCell']
          go_upto_region 15 with (at_builtin; refine wpList_appK w6 [.int .i64 (lv : Int)] 1 rfl _ _ 82 3 rfl w5.heap.size Tryz.underlying82 infoInt7 rfl (by decide) _ cn _ rfl hown6 _ rfl rfl rfl hone1 h63' ?_ hz6 ?_; exact hby'; intro gq cq w7 hown7 hgrow7 hat7)
          have hb57 : Below w5.heap.size w5 w7 := below_own hb56 hown6 hgrow7 hz6 (Nat.le_refl _)
          obtain ⟨bRz, hW⟩ := hfin.out w7 (some ⟨gq, 0, none⟩) (cn + 1) cq (pa ++ [lv]) hb57 (by rw [List.map_append]; exact hown7) (by rw [List.length_append, hplc]; rfl) (by rw [hs1.out]; exact hpo.out.symm)
          obtain ⟨bW, hres⟩ := hW _ rfl
          have r0 := bRz.cell (i := 0) rfl
          have r1 := bRz.cell (i := 1) rfl
          have f0 := bRz.free 0
          have f1 := bRz.free 1
          have q0 := bW.cell (i := 0) rfl
          have q1 := bW.cell (i := 1) rfl
          replace hres := Lib.hid hres
          clear bW hW bRz hown7 hgrow7 hat7 hown6
          go_wp2_with fail
          exact bodyPost_ret (v := .agg #[.slice a5 l8.length c5, .slice (some ⟨gq, 0, none⟩) (cn + 1) cq]) (by simp [results, Tryz.results65, go_sem, q0, q1]) rfl hres.out
        · obtain ⟨bRz, hW⟩ := hfin.out w6 a7 cn c7 pa hb56 hown6 hplc.symm (by rw [hs1.out]; exact hpp.out.symm)
          obtain ⟨bW, hres⟩ := hW _ rfl
          have r0 := bRz.cell (i := 0) rfl
          have r1 := bRz.cell (i := 1) rfl
          have f0 := bRz.free 0
          have f1 := bRz.free 1
          have q0 := bW.cell (i := 0) rfl
          have q1 := bW.cell (i := 1) rfl
          replace hres := Lib.hid hres
          clear bW hW bRz hown6
          go_wp2_with fail
          exact bodyPost_ret (v := .agg #[.slice a5 l8.length c5, .slice a7 cn c7]) (by simp [results, Tryz.results65, go_sem, q0, q1]) rfl hres.out
  by_cases hk2 : kt = 2
  · subst hk2
    have hs1 : Hid (s' = match M7.endAt O nt d with | some i => ⟨L, i⟩ | none => ⟨L, d⟩) := by
      show _ = _
      rw [← hs'.out, ← hO.out]; rfl
    obtain ⟨wf, hwf⟩ : ∃ W, Hid (W = w4) := ⟨_, rfl⟩
    replace bxB := Lib.hid bxB
    replace bxT := Lib.hid bxT
    replace bxR := Lib.hid bxR
    replace hbo := Lib.hid hbo
    clear hs'
    go_upto_region 18 with (fail)
    have hbx : Hid (∀ W : World, W.heap = w4.heap → Box W wo.heap.size 84 [.slice a L.length cap, .slice ap d cp] ∧ Box W (wo.heap.size + 1) 87 [.int .i64 2, .string nt, .slice at_ att.length ct, .string tt] ∧ Box W (wo.heap.size + 1 + 1) 84 [.slice none 0 0, .slice none 0 0]) := fun W h => ⟨bxB.out.keep (by rw [h]), bxT.out.keep (by rw [h]), bxR.out.keep (by rw [h])⟩
    clear p0 p1 k0 k1 k2 k3 r0 r1 f0 f1 hwf
    go_loopw [12] (fun u12 wr => ∃ k : Nat, k ≤ d ∧ u12 = .int .i64 ((k : Int) - 1) ∧ M7.endAt O nt d = M7.endAt O nt k ∧ wr.heap = w4.heap ∧ Below wo.heap.size wo wr) (fun u12 _ => (intOf u12 + 1).toNat)
    case atStart => exact ⟨d, Nat.le_refl _, by simp, rfl, rfl, hbo.out⟩
    case round =>
      obtain ⟨k, hk, rfl, hke, hqh, hbr⟩ := hrel
      obtain ⟨wr', rfl⟩ : ∃ W : World, W = wr := ⟨_, rfl⟩
      cases k with
      | zero =>
        have hs2 : Hid (s' = ⟨L, d⟩) := by
          show _ = _
          rw [hs1.out, hke]; rfl
        obtain ⟨bB, bT, bR⟩ := hbx.out wr' hqh
        have p0 := bB.cell (i := 0) rfl
        have p1 := bB.cell (i := 1) rfl
        have k0 := bT.cell (i := 0) rfl
        have r0 := bR.cell (i := 0) rfl
        have r1 := bR.cell (i := 1) rfl
        have f0 := bR.free 0
        have f1 := bR.free 1
        have bx2 := bR.two (.slice a L.length cap) (.slice ap d cp)
        have q0 := bx2.cell (i := 0) rfl
        have q1 := bx2.cell (i := 1) rfl
        have hbf := Lib.hid (two_below hbr (g := wo.heap.size + 1 + 1) (.slice a L.length cap) (.slice ap d cp) (by omega))
        clear bx2 hs1 hke bB bT bR hqh hbr
        go_wp2_with fail
        refine bodyPost_ret (v := .agg #[.slice a L.length cap, .slice ap d cp]) (by simp [results, Tryz.results65, go_sem, q0, q1]) rfl ?_
        rw [hs2.out]
        refine ⟨_, _, rfl, ?_, ?_, hbf.out⟩
        · exact (hr.out.below hS hbf.out).mono (fun b hb => Or.inl hb)
        · exact Row.mono (hp.out.below hS hbf.out) (fun b hb => Or.inl hb)
      | succ i =>
        have hio : i < O.length := by omega
        obtain ⟨bo, oo, eo, -, c0⟩ := Row.atS (Row.keep hto.out (w' := wr') (fun b _ => by rw [hqh])) i hio
        subst eo
        have hi1 : (((i + 1 : Nat) : Int) - 1) = (i : Int) := by omega
        rw [hi1]
        have hI0 : (0 : Int) ≤ (i : Int) := by omega
        have hI1 : (i : Int) < (d : Int) := by omega
        have hoi : O.getD i ⟨#[]⟩ = O[i] := by simp [List.getD, hio]
        rw [M7.endAt, hoi] at hke
        obtain ⟨bB, bT, bR⟩ := hbx.out wr' hqh
        have k1 := bT.cell (i := 1) rfl
        replace hqh := Lib.hid hqh
        replace hbr := Lib.hid hbr
        clear bB bT bR
        by_cases hE : O[i] = nt
        · rw [if_pos (by rw [hE])] at hke
          have hs2 : Hid (s' = ⟨L, i⟩) := by
            show _ = _
            rw [hs1.out, hke]
          rw [hE] at c0
          obtain ⟨bp, offp, eap, -, -⟩ := Ints.at_ hp.out 0 ((M7.pathN d L)[0]'(by omega)) (List.getElem?_eq_getElem _)
          subst eap
          have hI2 : (i : Int) ≤ (cp : Int) := by omega
          clear hs1 hke hoi hE
          go_upto_region 20 with (fail)
          go_quiet (fail)
          have hbq := below_drewN hbr.out nq
          obtain ⟨wq, hwq⟩ : ∃ wq : World, wq = wr'.drewN nq := ⟨_, rfl⟩
          have hqq : wq.heap = w4.heap := by rw [hwq, ← hqh.out]; rfl
          rw [← hwq] at hbq ⊢
          clear hwq c0 k1
          obtain ⟨bB, bT, bR⟩ := hbx.out wq hqq
          have p0 := bB.cell (i := 0) rfl
          have p1 := bB.cell (i := 1) rfl
          have r0 := bR.cell (i := 0) rfl
          have r1 := bR.cell (i := 1) rfl
          have f0 := bR.free 0
          have f1 := bR.free 1
          replace hqq := Lib.hid hqq
          replace hbq := Lib.hid hbq
          replace bR := Lib.hid bR
          clear bB bT
          go_wp2_with fail
          go_still_tail 7, (by kernel_rfl)
          change wpList _ _ _ _ _ wq.drew
          have bx2 := bR.out.two (.slice a L.length cap) (.slice (some ⟨bp, offp, none⟩) i cp)
          have q0 : ((wq.setCell ⟨wo.heap.size + 1 + 1, 0, none⟩ (.slice a L.length cap)).setCell ⟨wo.heap.size + 1 + 1, 1, none⟩ (.slice (some ⟨bp, offp, none⟩) i cp)).drew.cell? ⟨wo.heap.size + 1 + 1, 0, none⟩ = some (.slice a L.length cap) := bx2.cell (i := 0) rfl
          have q1 : ((wq.setCell ⟨wo.heap.size + 1 + 1, 0, none⟩ (.slice a L.length cap)).setCell ⟨wo.heap.size + 1 + 1, 1, none⟩ (.slice (some ⟨bp, offp, none⟩) i cp)).drew.cell? ⟨wo.heap.size + 1 + 1, 1, none⟩ = some (.slice (some ⟨bp, offp, none⟩) i cp) := bx2.cell (i := 1) rfl
          have hbf := Lib.hid (two_below hbq.out (g := wo.heap.size + 1 + 1) (.slice a L.length cap) (.slice (some ⟨bp, offp, none⟩) i cp) (by omega)).drew
          clear bx2
          go_wp2_with fail
          refine bodyPost_ret (v := .agg #[.slice a L.length cap, .slice (some ⟨bp, offp, none⟩) i cp]) (by simp [results, Tryz.results65, go_sem, q0, q1]) rfl ?_
          rw [hs2.out]
          refine ⟨_, _, rfl, ?_, ?_, hbf.out⟩
          · exact (hr.out.below hS hbf.out).mono (fun b hb => Or.inl hb)
          · show Ints _ _ _ (M7.pathN i L)
            rw [M7.pathN_take hok.out (by omega)]
            exact Row.mono ((hp.out.take i (by omega)).below hS hbf.out) (fun b hb => Or.inl hb)
        · rw [if_neg (fun h => hE (ByteArray.ext (Array.toList_inj.1 h)))] at hke
          generalize O[i] = oi at *
          have hne : (oi.toList == nt.toList) = false := beq_eq_false_iff_ne.2 (fun h => hE (ByteArray.ext (Array.toList_inj.1 (by rwa [Lib.toList_data, Lib.toList_data] at h))))
          replace hke := Lib.hid hke
          clear hoi
          go_upto_region 20 with (fail)
          go_quiet (fail)
          have hbq := Lib.hid (below_drewN hbr.out nq)
          obtain ⟨wq, hwq⟩ : ∃ wq : World, wq = wr'.drewN nq := ⟨_, rfl⟩
          have hqq : Hid (wq.heap = w4.heap) := by show _ = _; rw [hwq, ← hqh.out]; rfl
          rw [← hwq] at hbq ⊢
          clear hwq
          go_wp2_with fail
          go_roundw
          case rel => exact ⟨i, by omega, by go_num, hke.out, hqq.out, hbq.out⟩
          case measure => simp [intOf]
  have hs1 : Hid (s' = ⟨L, d⟩) := by
    show _ = _
    rw [← hs'.out]
    unfold M7.step
    rw [if_neg hk1, if_neg hk2, if_neg hk3, if_neg hk4]
  have d1 : decide (kt = 1) = false := by simpa using hk1
  have d2 : decide (kt = 2) = false := by simpa using hk2
  have d3 : decide (kt = 3) = false := by simpa using hk3
  have d4 : decide (kt = 4) = false := by simpa using hk4
  have bx2 := bxR.two (.slice a L.length cap) (.slice ap d cp)
  have q0 := bx2.cell (i := 0) rfl
  have q1 := bx2.cell (i := 1) rfl
  replace bxB := Lib.hid bxB
  replace bxT := Lib.hid bxT
  replace bxR := Lib.hid bxR
  have hbf := Lib.hid (two_below hbo (g := wo.heap.size + 1 + 1) (.slice a L.length cap) (.slice ap d cp) (by omega))
  replace hbo := Lib.hid hbo
  clear bx2
  go_wp2_with fail
  refine bodyPost_ret (v := .agg #[.slice a L.length cap, .slice ap d cp]) (by simp [results, Tryz.results65, go_sem, q0, q1]) rfl ?_
  rw [hs1.out]
  refine ⟨_, _, rfl, ?_, ?_, hbf.out⟩
  · exact (hr.out.below hS hbf.out).mono (fun b hb => Or.inl hb)
  · exact Row.mono (hp.out.below hS hbf.out) (fun b hb => Or.inl hb)
end Go.Proofs.YteefodibpjgicaaGreat

namespace Go.Proofs.YteefodibpjgicaaGreat
namespace M7
open M3 (push)
theorem dt_put {d : Nat} {L : List Nd} (x : Nd) (h : okD d L) : dtN (putN d x L) ≤ dtN L + (x.text.size + dtN x.kids) := by
  induction d generalizing L with
  | zero => exact dt_push L x
  | succ d ih =>
    rcases List.eq_nil_or_concat L with rfl | ⟨A, y, rfl⟩
    · exact h.elim
    · rw [List.concat_eq_append, okD_snoc] at *
      rw [putN_snoc, dt_append, dt_append, dt_cons, dt_cons]
      show _ + (y.text.size + dtN (putN d x y.kids) + _) ≤ _
      have := ih h
      omega
theorem dt_step {s : St} (t : Tok) (h : s.ok) : dtN (step s t).L ≤ dtN s.L + t.text.size := by
  unfold step
  split
  · have h1 := okD_pre h (closeAt_le (openN s.d s.L) t.name s.d)
    have := dt_put (elT t) h1
    have e : (elT t).text.size + dtN (elT t).kids = 0 := by show 0 + dtN [] = 0; rw [dt_nil]
    show dtN (putN _ _ _) ≤ _
    omega
  split
  · split <;> exact Nat.le_add_right _ _
  split
  · have := dt_put (txT t) h
    have e : (txT t).text.size + dtN (txT t).kids = t.text.size := by show t.text.size + dtN [] = _; rw [dt_nil]; rfl
    show dtN (putN _ _ _) ≤ _
    omega
  split
  · have := dt_put (coT t) h
    have e : (coT t).text.size + dtN (coT t).kids = t.text.size := by show t.text.size + dtN [] = _; rw [dt_nil]; rfl
    show dtN (putN _ _ _) ≤ _
    omega
  · exact Nat.le_add_right _ _
theorem dt_run (l : List Tok) : dtN (run l).L ≤ (l.map fun t => t.text.size).sum := by
  have key : ∀ (l : List Tok) (s : St), s.ok → dtN (l.foldl step s).L ≤ dtN s.L + (l.map fun t => t.text.size).sum := by
    intro l
    induction l with
    | nil => intro s _; exact Nat.le_refl _
    | cons t r ih =>
      intro s h
      have h1 := ih _ (step_ok t h)
      have h2 := dt_step t h
      rw [List.foldl_cons, List.map_cons, List.sum_cons]
      omega
  have := key l ⟨[], 0⟩ trivial
  have e : dtN (St.mk [] 0).L = 0 := dt_nil
  unfold run
  omega
theorem ok_weight {d : Nat} : ∀ {L : List Nd}, okD d L → d ≤ M3.weight L := by
  induction d with
  | zero => intro L _; exact Nat.zero_le _
  | succ d ih =>
    intro L h
    rcases List.eq_nil_or_concat L with rfl | ⟨A, y, rfl⟩
    · exact h.elim
    · rw [List.concat_eq_append, okD_snoc] at *
      rw [M3.weight_append, M3.weight_cons]
      have := ih h
      omega
end M7
end Go.Proofs.YteefodibpjgicaaGreat

namespace Go.Proofs.YteefodibpjgicaaGreat
open Go.RowKit
theorem sum_take_le {α : Type} (f : α → Nat) (l : List α) (i : Nat) : ((l.take i).map f).sum ≤ (l.map f).sum := by
  have : (l.map f).sum = ((l.take i).map f).sum + ((l.drop i).map f).sum := by rw [← List.sum_append, ← List.map_append, List.take_append_drop]
  omega
theorem le_sum_mem {α : Type} (f : α → Nat) (l : List α) (a : α) (h : a ∈ l) : f a ≤ (l.map f).sum := by
  induction l with
  | nil => cases h
  | cons b r ih =>
    rw [List.map_cons, List.sum_cons]
    rcases List.mem_cons.1 h with rfl | h
    · omega
    · have := ih h; omega
def Sx (S : Nat → Prop) (wo wr : World) (b : Nat) : Prop := S b ∨ (wo.heap.size < b ∧ b < wr.heap.size)
def TrV (S : Nat → Prop) (wo W : World) (s : M7.St) (vL vP : Value) : Prop := RepN (Sx S wo W) W vL s.L ∧ Ints (Sx S wo W) W vP (M7.pathN s.d s.L) ∧ Below wo.heap.size wo W
def TrB (S : Nat → Prop) (wo W : World) (s : M7.St) : Prop := ∃ vL vP, TrV S wo W s vL vP ∧ Box W wo.heap.size 84 [vL, vP]
def TrI (S : Nat → Prop) (wo wr : World) (s : M7.St) (f : Nat → Bool) (t : Nat → Value) (W : World) : Prop :=
  (f 5 = false → W = wr.drew) ∧ (f 5 = true → f 6 = false → ∃ vL vP z0 z1, t 5 = .agg #[vL, vP] ∧ TrV S wo W s vL vP ∧ Box W wo.heap.size 84 [z0, z1]) ∧ (f 6 = true → TrB S wo W s)
section
variable {S : Nat → Prop} {wo wr W : World} {s : M7.St} {f : Nat → Bool} {t : Nat → Value} {vL vP : Value}
theorem TrI.same (h : TrI S wo wr s f t W) (i : Nat) (v : Value) (h5 : 5 ≠ i) (h6 : 6 ≠ i) : TrI S wo wr s (updF f i) (updT t i v) W := by
  unfold TrI
  rw [updF_ne _ h5, updF_ne _ h6, updT_ne _ _ h5]
  exact h
theorem TrV.store (h : TrV S wo W s vL vP) {z0 z1 : Value} (hb : Box W wo.heap.size 84 [z0, z1]) (hS : ∀ b, S b → b < wo.heap.size) : TrB S wo ((W.setCell ⟨wo.heap.size, 0, none⟩ vL).setCell ⟨wo.heap.size, 1, none⟩ vP) s := by
  obtain ⟨h1, h2, h3⟩ := h
  have hsz : ((W.setCell ⟨wo.heap.size, 0, none⟩ vL).setCell ⟨wo.heap.size, 1, none⟩ vP).heap.size = W.heap.size := by simp [World.setCell]
  have hk : ∀ b, Sx S wo W b → ((W.setCell ⟨wo.heap.size, 0, none⟩ vL).setCell ⟨wo.heap.size, 1, none⟩ vP).heap[b]? = W.heap[b]? := fun b hb => by
    have hne : b ≠ wo.heap.size := by
      rcases hb with hb | hb
      · have := hS b hb; omega
      · omega
    rw [Below.heap_setCell _ _ _ _ (by simpa using hne), Below.heap_setCell _ _ _ _ (by simpa using hne)]
  have hm : ∀ b, Sx S wo W b → Sx S wo ((W.setCell ⟨wo.heap.size, 0, none⟩ vL).setCell ⟨wo.heap.size, 1, none⟩ vP) b := fun b hb => by
    rcases hb with hb | hb
    · exact Or.inl hb
    · exact Or.inr ⟨hb.1, by rw [hsz]; exact hb.2⟩
  exact ⟨_, _, ⟨(h1.keep hk).mono hm, Row.mono (Row.keep h2 hk) hm, two_below h3 _ _ (Nat.le_refl _)⟩, hb.two _ _⟩
end
set_option maxHeartbeats 8000000 in
set_option maxRecDepth 100000 in
theorem ref07Tree (S : Nat → Prop) (v : Value) (l : List Tok) (w : World) (hS : ∀ b, S b → b < w.heap.size) (hr : TokR S w v l) (hl : l.length ≤ 100000) (hw : (l.map M7.tokW).sum ≤ 100000) (ht : (l.map fun t => t.text.size).sum ≤ 536870912) :
    Calls Tryz.prog 42 #[v] w (ShrP S (M7.tree l) w) := by
  obtain ⟨a, cap, rfl⟩ := hr.slice
  obtain ⟨wo, rfl⟩ : ∃ wo : World, wo = w := ⟨_, rfl⟩
  have hwi : ∀ i, M3.weight (M7.run (l.take i)).L ≤ 100000 := fun i => Nat.le_trans (M7.weight_run _) (Nat.le_trans (sum_take_le M7.tokW l i) hw)
  have hti : ∀ i, dtN (M7.run (l.take i)).L ≤ 536870912 := fun i => Nat.le_trans (M7.dt_run _) (Nat.le_trans (sum_take_le (fun t : Tok => t.text.size) l i) ht)
  have htt : ∀ tk ∈ l, tk.text.size ≤ 536870912 := fun tk hm => Nat.le_trans (le_sum_mem (fun t : Tok => t.text.size) l tk hm) ht
  replace hwi := Lib.hid hwi
  replace hti := Lib.hid hti
  replace htt := Lib.hid htt
  clear hw ht
  go_enter Tryz.func42, Tryz.ntmps42
  go_wp2_with fail
  have hbx : TrB S wo (wo.alloc (.cells #[.slice none 0 0, .slice none 0 0] 84)) ⟨[], 0⟩ := ⟨_, _, ⟨RepN.nil _ _, Row.nil _ _ _, (Below.refl _ _).alloc (Nat.le_refl _) _⟩, Box.new wo 84 [.slice none 0 0, .slice none 0 0]⟩
  replace hbx := Lib.hid hbx
  go_loopw [4] (fun u4 wr => ∃ i : Nat, i ≤ l.length ∧ u4 = .int .i64 (i : Int) ∧ Hid (TrB S wo wr (M7.run (l.take i)))) (fun u4 _ => l.length - (intOf u4).toNat)
  case atStart => exact ⟨0, by omega, rfl, hbx⟩
  case round =>
    obtain ⟨i, hi, rfl, hTB⟩ := hrel
    clear hbx
    obtain ⟨vL, vP, ⟨hrL, hrP, hb⟩, bx⟩ := hTB.out
    have hz := hb.size
    obtain ⟨aL, cL, rfl⟩ := hrL.slice
    obtain ⟨aP, cP, rfl⟩ := Row.slice hrP
    have x0 := bx.cell (i := 0) rfl
    have x1 := bx.cell (i := 1) rfl
    have hgl := bx.lt
    by_cases hlt : i < l.length
    · obtain ⟨b, off, va, rfl, hSb, hat, c0, c1, c2, c3⟩ := (hr.keep (w' := wr) (fun b hb' => hb.block b (hS b hb'))).at_ i hlt
      have hbl := hS b hSb
      have hok := M7.run_ok (l.take i)
      have hdw := M7.ok_weight hok
      have h1 := hwi.out i
      have h2 := hti.out i
      have h3 := htt.out _ (List.getElem_mem hlt)
      have htk : M7.run (l.take (i + 1)) = M7.step (M7.run (l.take i)) l[i] := by
        rw [List.take_succ_eq_append_getElem hlt, M7.run_snoc]
      generalize l[i] = tk at *
      generalize M7.run (l.take i) = s at *
      obtain ⟨av, cv, rfl⟩ := hat.slice
      have hPut := Lib.hid (ref07Put (Sx S wo wr) (.slice aL s.L.length cL) (.slice aP (M7.pathN s.d s.L).length cP) (.slice av tk.attrs.length cv) s tk wr.drew hok (by omega) h1 (by omega) (fun b hb' => by
        show b < wr.heap.size
        rcases hb' with h | h
        · have := hS b h; omega
        · exact h.2) (hrL.keep fun _ _ => rfl) (Row.keep hrP fun _ _ => rfl) ((Row.keep hat fun _ _ => rfl).mono fun b h => Or.inl h))
      generalize M7.pathN s.d s.L = pa at *
      generalize hs' : M7.step s tk = s' at *
      replace htk := Lib.hid htk
      clear hTB hrL hrP hok hdw h1 h2 h3 hat hs'
      replace bx := Lib.hid bx
      go_upto_region 5 with fail
      refine wp_region_knownC (n := 7) ([some (.agg #[.slice aL s.L.length cL, .slice aP pa.length cP]), some (Value.slice (some ⟨b, off, none⟩) l.length cap), some (Value.int IntKind.i64 (i : Int)), some (.pointer (some ⟨b, off + i * 4, none⟩)), some (.agg #[.int .i64 tk.kind, .string tk.name, .slice av tk.attrs.length cv, .string tk.text]), none, none] : List (Option Value)) (fun t => ⟨#[Value.slice (some ⟨b, off, none⟩) l.length cap, undef, Value.slice none 0 0, Value.pointer (some ⟨wo.heap.size, 0, none⟩), Value.int IntKind.i64 (i : Int), Value.int IntKind.i64 (i : Int), Value.slice (some ⟨b, off, none⟩) l.length cap, Value.int IntKind.i64 (l.length : Int), Value.bool true, u9, u10, t 0, t 1, t 2, t 3, t 4, t 5, undef, undef], []⟩) (fun f t W => TrI S wo wr s' f t W) (fun j => match j with | 0 => u11 | 1 => u12 | 2 => u13 | 3 => u14 | 4 => u15 | 5 => u16 | _ => undef) (by kernel_rfl) (by rfl) (by rfl) (by kernel_rfl) rfl ?i0 ?step ?fin
      case i0 =>
        exact ⟨fun _ => rfl, (fun h => by simp at h), (fun h => by simp at h)⟩
      case step =>
        intro j0 hj0 f t W hfi hwt hcl hk2 hI
        have h65 : f 6 = true → f 5 = true := hcl 6 5 (by kernel_rfl)
        have ha := hcl 5 0 (by kernel_rfl)
        have hb' := hcl 5 4 (by kernel_rfl)
        clear hcl
        have hnot : j0 = 0 ∨ j0 = 4 → f 5 = false := fun h => Bool.eq_false_iff.2 (fun q => by
          have q1 := ha q
          have q2 := hb' q
          rcases h with rfl | rfl <;> simp_all)
        obtain rfl | rfl | rfl | rfl | rfl | rfl | rfl : j0 = 0 ∨ j0 = 1 ∨ j0 = 2 ∨ j0 = 3 ∨ j0 = 4 ∨ j0 = 5 ∨ j0 = 6 := by omega
        · -- operation 0
          try (have hW := hI.1 (hnot (by decide)); subst hW)
          replace hI := Lib.hid hI
          replace hk2 := Lib.hid hk2
          clear hwt
          refine wpOp_step rfl (fun K hK => ?_)
          go_simp
          exact hK _ _ ⟨_, by simp [updT], hk2.out.at_ rfl, hI.out.same _ _ (by decide) (by decide)⟩
        · -- operation 1
          try (have hW := hI.1 (hnot (by decide)); subst hW)
          replace hI := Lib.hid hI
          replace hk2 := Lib.hid hk2
          clear hwt
          refine wpOp_step rfl (fun K hK => ?_)
          go_simp
          exact hK _ _ ⟨_, by simp [updT], hk2.out.at_ rfl, hI.out.same _ _ (by decide) (by decide)⟩
        · -- operation 2
          try (have hW := hI.1 (hnot (by decide)); subst hW)
          replace hI := Lib.hid hI
          replace hk2 := Lib.hid hk2
          clear hwt
          refine wpOp_step rfl (fun K hK => ?_)
          go_simp
          exact hK _ _ ⟨_, by simp [updT], hk2.out.at_ rfl, hI.out.same _ _ (by decide) (by decide)⟩
        · -- operation 3
          have e1 : t 1 = Value.slice (some ⟨b, off, none⟩) l.length cap := hk2 1 _ (hwt 1 (by kernel_rfl)) rfl
          have e2 : t 2 = Value.int IntKind.i64 (i : Int) := hk2 2 _ (hwt 2 (by kernel_rfl)) rfl
          try (have hW := hI.1 (hnot (by decide)); subst hW)
          replace hI := Lib.hid hI
          replace hk2 := Lib.hid hk2
          clear hwt
          refine wpOp_step rfl (fun K hK => ?_)
          go_simp
          exact hK _ _ ⟨_, by simp [updT, e1, e2], hk2.out.at_ rfl, hI.out.same _ _ (by decide) (by decide)⟩
        · -- operation 4
          have e3 : t 3 = .pointer (some ⟨b, off + i * 4, none⟩) := hk2 3 _ (hwt 3 (by kernel_rfl)) rfl
          try (have hW := hI.1 (hnot (by decide)); subst hW)
          replace hI := Lib.hid hI
          replace hk2 := Lib.hid hk2
          clear hwt
          refine wpOp_step rfl (fun K hK => ?_)
          go_simp
          exact hK _ _ ⟨_, by simp [updT, e3], hk2.out.at_ rfl, hI.out.same _ _ (by decide) (by decide)⟩
        · -- operation 5
          have e0 : t 0 = .agg #[.slice aL s.L.length cL, .slice aP pa.length cP] := hk2 0 _ (hwt 0 (by kernel_rfl)) rfl
          have e4 : t 4 = .agg #[.int .i64 tk.kind, .string tk.name, .slice av tk.attrs.length cv, .string tk.text] := hk2 4 _ (hwt 4 (by kernel_rfl)) rfl
          have h6 : f 6 = false := Bool.eq_false_iff.2 (fun h => by rw [h65 h] at hfi; cases hfi)
          have hW := hI.1 hfi
          subst hW
          replace hk2 := Lib.hid hk2
          replace hI := Lib.hid hI
          clear hwt
          refine wpOp_step rfl (fun K hK => ?_)
          go_simp
          refine hPut.out.mono ?_
          rintro e w5 ⟨v5, p5, rfl, hr5, hp5, hb5⟩
          have hz5 : wr.heap.size ≤ w5.heap.size := hb5.size
          have hb5' : Below wr.heap.size wr w5 := (Below.refl wr.heap.size wr).drew.trans hb5
          have hm5 : ∀ b, (Sx S wo wr b ∨ (wr.drew.heap.size ≤ b ∧ b < w5.heap.size)) → Sx S wo w5 b := fun b hb' => by
            rcases hb' with (h | h) | h
            · exact Or.inl h
            · exact Or.inr ⟨h.1, by omega⟩
            · exact Or.inr ⟨Nat.lt_of_lt_of_le hgl h.1, h.2⟩
          exact hK _ _ ⟨.agg #[v5, p5], by simp [updT, e0, e4], hk2.out.free rfl, ⟨(fun h => by rw [updF_self] at h; cases h), fun _ _ => ⟨v5, p5, _, _, updT_same _ _ _, ⟨hr5.mono hm5, Row.mono hp5 hm5, bt hb hb5'⟩, bx.out.below hb5' hgl⟩, (fun h => by rw [updF_ne _ (by decide), h6] at h; cases h)⟩⟩
        · -- operation 6
          have h5 := hwt 5 (by kernel_rfl)
          obtain ⟨vL, vP, z0, z1, e5, hV, bW⟩ := hI.2.1 h5 hfi
          have hst := Lib.hid (hV.store bW hS)
          obtain ⟨a8, c8, rfl⟩ := hV.1.slice
          obtain ⟨a9, c9, rfl⟩ := Row.slice hV.2.1
          have y0 := bW.cell (i := 0) rfl
          have y1 := bW.cell (i := 1) rfl
          have f0 := bW.free 0
          have f1 := bW.free 1
          clear bW hV
          replace hk2 := Lib.hid hk2
          replace hI := Lib.hid hI
          clear hwt
          refine wpOp_step rfl (fun K hK => ?_)
          go_simp
          exact hK _ _ ⟨undef, by simp [updT, e5, ], hk2.out.free rfl, ⟨(fun h => by rw [updF_ne _ (by decide), h5] at h; cases h), (fun _ h => by rw [updF_self] at h; cases h), fun _ => hst.out⟩⟩
      case fin =>
        intro f t W hall hk2 hI
        have hTB : Hid (TrB S wo W (M7.run (l.take (i + 1)))) := by
          show TrB _ _ _ _
          rw [htk.out]; exact hI.2.2 (hall 6 (by omega))
        clear hk2 hall hI hPut bx
        go_wp2_with fail
        go_roundw
        case rel => exact ⟨i + 1, by omega, by go_num, hTB⟩
        case measure => exact meas_nat hlt
    · obtain rfl : i = l.length := by omega
      rw [List.take_length] at hrL
      have hres : Hid (RepN (fun b => S b ∨ (wo.heap.size ≤ b ∧ b < wr.heap.size)) wr (.slice aL (M7.run l).L.length cL) (M7.tree l)) := by
        show RepN _ _ _ _
        exact RepN.mono (S := Sx S wo wr) hrL (fun b hb' => by
          rcases hb' with h | h
          · exact Or.inl h
          · exact Or.inr ⟨by omega, h.2⟩)
      clear hTB hrL hrP bx
      go_wp2_with fail
      go_ret
      exact ⟨_, rfl, hres.out, hb⟩
end Go.Proofs.YteefodibpjgicaaGreat

namespace Go.Proofs.YteefodibpjgicaaGreat
open Go.RowKit
theorem wr_meas4 {n k : Nat} (h : k < n) : n - (intOf (.int .i64 ((k : Int) + 1))).toNat < n - (intOf (.int .i64 (k : Int))).toNat := by
  simp [intOf]; omega
def TxtPost (out : List UInt8) (w : World) (e : Ending) (w' : World) : Prop := e = .returned (.string ⟨out.toArray⟩) ∧ Below w.heap.size w w'
set_option maxHeartbeats 4000000 in
set_option maxRecDepth 100000 in
theorem ref04Open (S : Nat → Prop) (x : Nd) (va vk : Value) (w : World) (hS : ∀ b, S b → b < w.heap.size) (hx : RepV S w x va vk) (hf : Fit1 x) :
    Calls Tryz.prog 63 #[x.val va vk] w (TxtPost (M4.openB x) w) := by
  obtain ⟨a1, e1, rfl⟩ := hx.at_.slice
  obtain ⟨a2, e2, rfl⟩ := hx.kids.slice
  obtain ⟨_, hlc, hcm⟩ := hx.at_.len
  have b0 : Below w.heap.size w (w.alloc (.cells (x.cells (.slice a1 x.attrs.length e1) (.slice a2 x.kids.length e2)).toArray 41)) := (Below.refl _ w).alloc (Nat.le_refl _) _
  have hz0 : (w.alloc (.cells (x.cells (.slice a1 x.attrs.length e1) (.slice a2 x.kids.length e2)).toArray 41)).heap.size = w.heap.size + 1 := by simp
  have hbx := Box.new w 41 (x.cells (.slice a1 x.attrs.length e1) (.slice a2 x.kids.length e2))
  by_cases k1 : x.kind = 1
  · have e0 : M4.openB x = M4.headB x.name x.attrs := by unfold M4.openB; rw [if_pos k1]
    rw [e0]
    clear e0
    have k1b : (x.kind != 1) = false := by simpa using k1
    replace k1 := Lib.hid k1
    have hat := Lib.hid (fun (W : World) (hW : Below w.heap.size w W) => hx.at_.keep (w' := W) (fun b h => hW.block b (hS b h)))
    have hfa := Lib.hid hf.2.2.1
    have hln := hf.1
    have hlw := hf.2.2.2
    have hal := M4.attsB_len x.attrs hf.2.2.1
    clear hx hf
    cases x with | mk k n ats t ks =>
    simp only [Nd.kind, Nd.name, Nd.text, Nd.attrs, Nd.kids, Nd.val] at *
    replace hz0 := Lib.hid hz0
    go_enter Tryz.func63, Tryz.ntmps63
    go_wp2_with fail
    go_loopw [3, 4] (fun u3 u4 wr => ∃ (i : Nat) (o : ByteArray), i ≤ ats.length ∧ u4 = .int .i64 (i : Int) ∧ u3 = .string o ∧ o.data.toList = 60 :: n.data.toList ++ M4.attsB (ats.take i) ∧ Below (w.heap.size + 1) (w.alloc (.cells #[.int .i64 k, .string n, .slice a1 ats.length e1, .string t, .slice a2 ks.length e2] 41)) wr) (fun _ u4 _ => ats.length - (intOf u4).toNat)
    case atStart => exact ⟨0, _, by omega, rfl, rfl, by rw [List.take_zero]; simp [M4.attsB], Below.refl _ _⟩
    case round =>
      obtain ⟨i, o, hi, rfl, rfl, ho, hb⟩ := hrel
      have hbx1 := hbx.below hb (by omega)
      have d2 := hbx1.cell (i := 2) rfl
      have hbw : Below w.heap.size w wr := b0.trans (hb.mono (by omega))
      have hpre := M4.attsB_prefix ats i
      have hos : o.size = 1 + n.size + (M4.attsB (ats.take i)).length := by
        show o.data.toList.length = _
        rw [ho]; simp; show n.size + _ + 1 = _; omega
      by_cases hlt : i < ats.length
      · obtain ⟨b, off, rfl, hSb, q0, q1⟩ := (hat.out wr hbw).atA i hlt
        have hbl := hS b hSb
        obtain ⟨hfn, hfv⟩ := hfa.out _ (List.getElem_mem hlt)
        have htk := M4.attsB_take ats i hlt
        have hEs := Lib.hid (fun W => ref02Escape ats[i].value true W (by omega))
        have hel := M2.escape_len true ats[i].value.data.toList
        have hel2 : ats[i].value.data.toList.length = ats[i].value.size := rfl
        have fin : Hid ((o ++ ⟨#[32]⟩ ++ ats[i].name ++ ⟨#[61, 34]⟩ ++ ⟨(M2.escape true ats[i].value.data.toList).toArray⟩ ++ ⟨#[34]⟩ : ByteArray).data.toList = 60 :: n.data.toList ++ M4.attsB (ats.take (i + 1))) := by
          show _ = _
          rw [htk, M4.attB]
          simp [ho]
        generalize hA2 : M4.attsB (ats.take (i + 1)) = A2 at *
        replace hA2 := Lib.hid hA2
        generalize ats[i].name = nm at *
        generalize ats[i].value = vl at *
        replace ho := Lib.hid ho
        replace htk := Lib.hid htk
        have hes : (⟨(M2.escape true vl.data.toList).toArray⟩ : ByteArray).size ≤ 1610612736 := by show (M2.escape true vl.data.toList).length ≤ _; omega
        generalize (⟨(M2.escape true vl.data.toList).toArray⟩ : ByteArray) = ev at *
        clear hel hel2
        have hI0 : (i : Int) < (ats.length : Int) := by omega
        have hI1 : (0 : Int) ≤ (i : Int) := by omega
        go_wp2_with fail
        go_quiet ((go_at_call 61; exact Calls.quiet_of_same (hEs.out _)))
        go_wp2_with fail
        go_roundw
        case rel => exact ⟨i + 1, _, by omega, by go_num, rfl, by rw [hA2.out]; exact fin.out, below_drewN hb _⟩
        case measure => exact wr_meas4 hlt
      · obtain rfl : i = ats.length := by omega
        rw [List.take_length] at ho hos
        have fin : Hid ((o ++ ⟨#[62]⟩ : ByteArray) = ⟨(M4.headB n ats).toArray⟩) := by
          show _ = _
          apply ByteArray.ext
          apply Array.ext'
          simp [ho, M4.headB]
        replace ho := Lib.hid ho
        go_wp2_with fail
        go_ret
        exact ⟨by rw [fin.out]; rfl, hbw⟩
  · have e0 : M4.openB x = [] := by unfold M4.openB; rw [if_neg k1]
    rw [e0]
    have k1b : (x.kind != 1) = true := by simpa using k1
    replace k1 := Lib.hid k1
    clear e0
    replace b0 := Lib.hid b0
    go_enter Tryz.func63, Tryz.ntmps63
    go_wp2_with fail
    go_ret
    exact ⟨rfl, b0.out⟩
theorem weight_mem' {x : Nd} {l : List Nd} (h : x ∈ l) : 1 + M3.weight x.kids ≤ M3.weight l := by
  have := weight_mem h
  omega
theorem str_two (a : List UInt8) (o : ByteArray) (h : o.data.toList = a) : o = ⟨a.toArray⟩ := by
  subst h
  cases o
  simp
set_option maxHeartbeats 8000000 in
set_option maxRecDepth 100000 in
theorem ref04one (wt : Nat) : ∀ (S : Nat → Prop) (x : Nd) (va vk : Value) (raw : Bool) (w : World), 1 + M3.weight x.kids < wt → (∀ b, S b → b < w.heap.size) → RepV S w x va vk → Fit1 x → FitN x.kids → (M4.oneB raw x).length ≤ 70368744177664 →
    Calls Tryz.prog 41 #[x.val va vk, .bool raw] w (TxtPost (M4.oneB raw x) w) := by
  induction wt with
  | zero => intro S x va vk raw w h; omega
  | succ wt ih =>
  intro S x va vk raw w hwt hS hx hf hfk hl
  have hOp := Lib.hid (fun W (hW : Below w.heap.size w W) => ref04Open S x va vk W (fun b h => Nat.lt_of_lt_of_le (hS b h) hW.size) (hx.keep (fun b h => hW.block b (hS b h))) hf)
  obtain ⟨a1, e1, rfl⟩ := hx.at_.slice
  obtain ⟨a2, e2, rfl⟩ := hx.kids.slice
  have b0 : Below w.heap.size w (w.alloc (.cells (x.cells (.slice a1 x.attrs.length e1) (.slice a2 x.kids.length e2)).toArray 41)) := (Below.refl _ w).alloc (Nat.le_refl _) _
  have hz0 : (w.alloc (.cells (x.cells (.slice a1 x.attrs.length e1) (.slice a2 x.kids.length e2)).toArray 41)).heap.size = w.heap.size + 1 := by simp
  have hbx := Box.new w 41 (x.cells (.slice a1 x.attrs.length e1) (.slice a2 x.kids.length e2))
  have hts := hf.2.1
  have hns := hf.1
  have hlw := hf.2.2.2
  replace ih := Lib.hid ih
  by_cases k3 : x.kind = 3
  · have e0 := M4.oneB_3 (raw := raw) k3
    have fin : Hid ((⟨#[60, 33, 45, 45]⟩ ++ x.text ++ ⟨#[45, 45, 62]⟩ : ByteArray) = ⟨(M4.oneB raw x).toArray⟩) := by
      refine str_two _ _ ?_
      rw [e0, M4.commB]; simp
    have k3b : (x.kind == 3) = true := by simpa using k3
    replace k3 := Lib.hid k3
    replace b0 := Lib.hid b0
    clear hOp e0 hbx hx hf
    go_enter Tryz.func41, Tryz.ntmps41
    go_wp2_with fail
    go_ret
    exact ⟨by rw [fin.out]; rfl, b0.out⟩
  have k3b : (x.kind == 3) = false := by simpa using k3
  by_cases k2 : x.kind = 2
  · have e0 := M4.oneB_2 (raw := raw) k2
    have k2b : (x.kind == 2) = true := by simpa using k2
    have hEs := Lib.hid (fun W => ref02Escape x.text false W (by omega))
    replace k2 := Lib.hid k2
    replace b0 := Lib.hid b0
    replace e0 := Lib.hid e0
    clear hOp hbx hx hf k3
    cases raw
    · go_enter Tryz.func41, Tryz.ntmps41
      go_wp2_with fail
      refine (hEs.out _).mono ?_
      rintro e w1 ⟨rfl, rfl⟩
      go_wp2_with fail
      go_ret
      exact ⟨by rw [e0.out]; rfl, b0.out⟩
    · go_enter Tryz.func41, Tryz.ntmps41
      go_wp2_with fail
      go_ret
      exact ⟨by rw [e0.out, show M4.charsB true x.text = x.text.data.toList from rfl, ← str_two _ x.text rfl]; rfl, b0.out⟩
  have k2b : (x.kind == 2) = false := by simpa using k2
  by_cases k1 : x.kind = 1
  · have e0 := M4.oneB_1 (raw := raw) k1
    have k1b : (x.kind != 1) = false := by simpa using k1
    have eop : M4.openB x = M4.headB x.name x.attrs := by unfold M4.openB; rw [if_pos k1]
    rw [eop] at hOp
    rw [e0] at hl ⊢
    have hkd := hx.kids
    clear e0 eop hf hx k2 k3
    replace k1 := Lib.hid k1
    cases x with | mk k n ats t ks =>
    simp only [Nd.kind, Nd.name, Nd.text, Nd.attrs, Nd.kids, Nd.val] at hwt hkd hfk hl hOp b0 hbx hz0 hlw hns hts k1b k2b k3b ⊢
    go_enter Tryz.func41, Tryz.ntmps41
    go_wp2_with fail
    refine (ref03Void _ _).mono ?_
    rintro e w1 ⟨rfl, rfl⟩
    cases hvd : M3.voidB n.data.toList
    · rw [hvd, M4.innerB_no] at hl
      go_wp2_with fail
      refine (ref03Raw _ _).mono ?_
      rintro e w1 ⟨rfl, rfl⟩
      have hOp2 := Lib.hid (hOp.out _ b0)
      generalize hrw : M3.rawB n.data.toList = rw_ at *
      replace hrw := Lib.hid hrw
      clear hOp
      go_wp2_with fail
      refine hOp2.out.mono ?_
      rintro e w1 ⟨rfl, hb1⟩
      have hbx1 := hbx.below hb1 (by omega)
      clear hOp2
      have hz1 := hb1.size
      have hbw1 := bt b0 hb1
      have h0 : Hid ((⟨(M4.headB n ats).toArray⟩ : ByteArray).data.toList = M4.headB n ats ++ M4.textB rw_ (ks.take 0)) := by show _ = _; rw [List.take_zero, M4.textB_nil]; simp
      go_wp2_with fail
      go_loopw [7, 8] (fun u7 u8 wr => ∃ (i : Nat) (o : ByteArray), i ≤ ks.length ∧ u8 = .int .i64 (i : Int) ∧ u7 = .string o ∧ Hid (o.data.toList = M4.headB n ats ++ M4.textB rw_ (ks.take i)) ∧ Below w1.heap.size w1 wr) (fun _ u8 _ => ks.length - (intOf u8).toNat)
      case atStart => exact ⟨0, _, by omega, rfl, rfl, h0, Below.refl _ _⟩
      case round =>
        obtain ⟨i, o, hi, rfl, rfl, ho, hb⟩ := hrel
        have hbx2 := hbx1.below hb hbx1.lt
        have d4 := hbx2.cell (i := 4) rfl
        have hbw : Below w.heap.size w wr := bt hbw1 hb
        obtain ⟨_, hlc, hcm⟩ := hkd.len
        have hos : o.size = (M4.headB n ats).length + (M4.textB rw_ (ks.take i)).length := by
          show o.data.toList.length = _
          rw [ho.out, List.length_append]
        by_cases hlt : i < ks.length
        · obtain ⟨b, off, va, vk, rfl, hSb, c0, c1, c2, c3, c4, hrv⟩ := hkd.look hS hbw i hlt
          have hbl := hS b hSb
          have hfx := fitN_mem hfk (List.getElem_mem hlt)
          have hwk := weight_mem' (List.getElem_mem hlt)
          have hpre := M4.textB_prefix rw_ ks (i + 1)
          have htk := M4.textB_take rw_ ks i hlt
          have hpre2 : (M4.textB rw_ (ks.take i)).length + (M4.oneB rw_ ks[i]).length ≤ (M4.textB rw_ ks).length := by rw [htk, List.length_append] at hpre; exact hpre
          rw [List.length_append, List.length_append] at hl
          have hih := Lib.hid (ih.out S ks[i] va vk rw_ wr (by omega) (fun b h => Nat.lt_of_lt_of_le (hS b h) hbw.size) (hrv.keep (fun b h => hbw.block b (hS b h))) hfx.1 hfx.2 (by omega))
          have fin : Hid ((o ++ ⟨(M4.oneB rw_ ks[i]).toArray⟩ : ByteArray).data.toList = M4.headB n ats ++ M4.textB rw_ (ks.take (i + 1))) := by
            show _ = _
            rw [htk]; simp [ho.out]
          have hsz2 : (⟨(M4.oneB rw_ ks[i]).toArray⟩ : ByteArray).size = (M4.oneB rw_ ks[i]).length := rfl
          have hsm : o.size + (⟨(M4.oneB rw_ ks[i]).toArray⟩ : ByteArray).size ≤ 70368744177664 := by rw [hsz2]; omega
          clear hpre htk hpre2 hsz2
          generalize hA2 : M4.textB rw_ (ks.take (i + 1)) = A2 at *
          replace hA2 := Lib.hid hA2
          replace hos := Lib.hid hos
          generalize ks[i] = y at *
          obtain ⟨a3, e3, rfl⟩ := hrv.at_.slice
          obtain ⟨a4, e4, rfl⟩ := hrv.kids.slice
          generalize M4.oneB rw_ y = ev at *
          clear hrv
          have hI0 : (i : Int) < (ks.length : Int) := by omega
          go_wp2_with fail
          refine hih.out.mono ?_
          rintro e w2 ⟨rfl, hb2⟩
          have hb3 := bt hb (hb2.mono (Nat.le_refl _))
          clear hih
          generalize (⟨ev.toArray⟩ : ByteArray) = eb at *
          go_wp2_with fail
          go_roundw
          case rel => exact ⟨i + 1, _, by omega, by go_num, rfl, by rw [hA2.out]; exact fin, hb3⟩
          case measure => exact wr_meas4 hlt
        · obtain rfl : i = ks.length := by omega
          rw [List.take_length] at ho hos
          have hel : M4.endB n = [60, 47] ++ (n.data.toList ++ [62]) := by unfold M4.endB; rw [hvd]; rfl
          have fin : Hid ((o ++ ⟨#[60, 47]⟩ ++ n ++ ⟨#[62]⟩ : ByteArray) = ⟨(M4.headB n ats ++ (M4.textB rw_ ks ++ M4.endB n)).toArray⟩) := by
            refine str_two _ _ ?_
            rw [hel]; simp [ho.out]
          have d1 : wr.cell? ⟨w.heap.size, 1, none⟩ = some (.string n) := hbx2.cell (i := 1) rfl
          rw [List.length_append, List.length_append] at hl
          have hos2 : o.size ≤ 70368744177664 := by omega
          replace hel := Lib.hid hel
          replace hos := Lib.hid hos
          go_wp2_with fail
          go_ret
          exact ⟨by rw [M4.innerB_no, ← fin.out]; rfl, hbw⟩
    · rw [hvd, M4.innerB_yes] at hl
      have hOp2 := Lib.hid (hOp.out _ b0)
      have e3 : M4.endB n = [] := by unfold M4.endB; rw [hvd]; rfl
      go_wp2_with fail
      refine hOp2.out.mono ?_
      rintro e w1 ⟨rfl, hb1⟩
      have hbb := Lib.hid (bt b0 hb1)
      go_wp2_with fail
      go_ret
      exact ⟨by rw [hvd, M4.innerB_yes, e3]; simp, hbb.out⟩
  · have e0 := M4.oneB_4 (raw := raw) k1 k2 k3
    rw [e0]
    have k1b : (x.kind != 1) = true := by simpa using k1
    replace k1 := Lib.hid k1
    replace b0 := Lib.hid b0
    clear e0 hOp hbx hx hf k2 k3
    go_enter Tryz.func41, Tryz.ntmps41
    go_wp2_with fail
    go_ret
    exact ⟨rfl, b0.out⟩
set_option maxHeartbeats 4000000 in
set_option maxRecDepth 100000 in
theorem ref04Text (S : Nat → Prop) (v : Value) (l : List Nd) (w : World) (hS : ∀ b, S b → b < w.heap.size) (hr : RepN S w v l) (hfit : FitN l) (hl : (M4.textB false l).length ≤ 70368744177664) :
    Calls Tryz.prog 26 #[v] w (TxtPost (M4.textB false l) w) := by
  obtain ⟨a, cap, rfl⟩ := hr.slice
  obtain ⟨_, hlc, hcm⟩ := hr.len
  replace hfit := Lib.hid hfit
  have h0 : Hid ((⟨#[]⟩ : ByteArray).data.toList = M4.textB false (l.take 0)) := by show _ = _; rw [List.take_zero, M4.textB_nil]
  go_enter Tryz.func26, Tryz.ntmps26
  go_wp2_with fail
  go_loopw [3, 4] (fun u3 u4 wr => ∃ (i : Nat) (o : ByteArray), i ≤ l.length ∧ u4 = .int .i64 (i : Int) ∧ u3 = .string o ∧ Hid (o.data.toList = M4.textB false (l.take i)) ∧ Below w.heap.size w wr) (fun _ u4 _ => l.length - (intOf u4).toNat)
  case atStart => exact ⟨0, _, by omega, rfl, rfl, h0, Below.refl _ _⟩
  case round =>
    obtain ⟨i, o, hi, rfl, rfl, ho, hb⟩ := hrel
    have hos : o.size = (M4.textB false (l.take i)).length := by
      show o.data.toList.length = _
      rw [ho.out]
    by_cases hlt : i < l.length
    · obtain ⟨b, off, va, vk, rfl, hSb, c0, c1, c2, c3, c4, hrv⟩ := hr.look hS hb i hlt
      have hbl := hS b hSb
      have hfx := fitN_mem hfit.out (List.getElem_mem hlt)
      have hpre := M4.textB_prefix false l (i + 1)
      have htk := M4.textB_take false l i hlt
      have hpre2 : (M4.textB false (l.take i)).length + (M4.oneB false l[i]).length ≤ (M4.textB false l).length := by rw [htk, List.length_append] at hpre; exact hpre
      have hih := Lib.hid (ref04one (1 + M3.weight l[i].kids + 1) S l[i] va vk false wr (by omega) (fun b h => Nat.lt_of_lt_of_le (hS b h) hb.size) (hrv.keep (fun b h => hb.block b (hS b h))) hfx.1 hfx.2 (by omega))
      have fin : Hid ((o ++ ⟨(M4.oneB false l[i]).toArray⟩ : ByteArray).data.toList = M4.textB false (l.take (i + 1))) := by
        show _ = _
        rw [htk]; simp [ho.out]
      have hsz2 : (⟨(M4.oneB false l[i]).toArray⟩ : ByteArray).size = (M4.oneB false l[i]).length := rfl
      have hsm : o.size + (⟨(M4.oneB false l[i]).toArray⟩ : ByteArray).size ≤ 70368744177664 := by rw [hsz2]; omega
      clear hpre htk hpre2 hsz2
      generalize hA2 : M4.textB false (l.take (i + 1)) = A2 at *
      replace hA2 := Lib.hid hA2
      replace hos := Lib.hid hos
      generalize l[i] = y at *
      obtain ⟨a3, e3, rfl⟩ := hrv.at_.slice
      obtain ⟨a4, e4, rfl⟩ := hrv.kids.slice
      generalize M4.oneB false y = ev at *
      clear hrv
      have hI0 : (i : Int) < (l.length : Int) := by omega
      go_wp2_with fail
      refine hih.out.mono ?_
      rintro e w2 ⟨rfl, hb2⟩
      have hb3 := bt hb hb2
      clear hih
      generalize (⟨ev.toArray⟩ : ByteArray) = eb at *
      go_wp2_with fail
      go_roundw
      case rel => exact ⟨i + 1, _, by omega, by go_num, rfl, by rw [hA2.out]; exact fin, hb3⟩
      case measure => exact wr_meas4 hlt
    · obtain rfl : i = l.length := by omega
      rw [List.take_length] at ho
      have fin : Hid (o = ⟨(M4.textB false l).toArray⟩) := str_two _ _ ho.out
      go_wp2_with fail
      go_ret
      exact ⟨by rw [← fin.out]; rfl, hb⟩
end Go.Proofs.YteefodibpjgicaaGreat

namespace Go.Proofs.YteefodibpjgicaaGreat
open Go.RowKit
theorem same_callP {w : World} {va vb : Value} {a b : List Nd} (ha : RepN (fun b => b < w.heap.size) w va a) (hb : RepN (fun b => b < w.heap.size) w vb b) : Calls Tryz.prog 38 #[va, vb] w (SamePost (M3.sameN a b) w) :=
  domSame (M3.weight a + 1) _ a b va vb w (Nat.lt_succ_self _) (fun _ h => h) ha hb
theorem shr_lt {l : List Nd} {w w' : World} {v : Value} (h : RepN (fun b => False ∨ (w.heap.size ≤ b ∧ b < w'.heap.size)) w' v l) : RepN (fun b => b < w'.heap.size) w' v l := h.mono fun _ h => h.elim (fun h => h.elim) (fun h => h.2)
set_option maxHeartbeats 2000000 in
set_option maxRecDepth 100000 in
theorem parKeeps (S : Nat → Prop) (v : Value) (l : List Nd) (w : World) (hg : Glo w) (hS : ∀ b, S b → b < w.heap.size) (hr : RepN S w v l) (hf : FitN l) (hl : (M4.textB false l).length ≤ 1073741824) (hft : FitL (M5.tokens (M4.textB false l))) :
    Calls Tryz.prog 21 #[v] w (SamePost (M3.sameN (again l) l) w) := by
  have hA := Lib.hid (parAgain S v l w hg hS hr hf hl hft)
  obtain ⟨a, cap, rfl⟩ := hr.slice
  obtain ⟨wo, rfl⟩ : ∃ wo : World, wo = w := ⟨_, rfl⟩
  go_enter Tryz.func21, Tryz.ntmps21
  go_wp2_with fail
  refine hA.out.mono ?_
  rintro e w1 ⟨v1, rfl, hr1, hb⟩
  have hz := hb.size
  have hS1 := Lib.hid (same_callP (shr_lt hr1) ((hr.below hS hb).mono fun b h => by have := hS b h; omega))
  obtain ⟨a1, c1, rfl⟩ := hr1.slice
  clear hr1 hr
  go_wp2_with fail
  refine hS1.out.mono ?_
  rintro e w2 ⟨rfl, hb2⟩
  have hb02 := bt hb hb2
  go_wp2_with fail
  go_ret
  exact ⟨rfl, hb02⟩
namespace M5
theorem tokW_le (t : Tok) : M7.tokW t ≤ tokQ t := by unfold M7.tokW tokQ; split <;> (try split) <;> omega
theorem sum_le_of {f g : Tok → Nat} (l : List Tok) (h : ∀ t, f t ≤ g t) : (l.map f).sum ≤ (l.map g).sum := by
  induction l with
  | nil => exact Nat.le_refl _
  | cons t r ih => rw [List.map_cons, List.map_cons, List.sum_cons, List.sum_cons]; have := h t; omega
theorem toks_fit2 (l : List UInt8) (h : l.length ≤ 20000) : (tokens l).length ≤ 100000 ∧ ((tokens l).map M7.tokW).sum ≤ 100000 ∧ ((tokens l).map fun t => t.text.size).sum ≤ 536870912 := by
  have h1 : qs (tokens l) ≤ 5 * (0 + l.length) := (toks_Q l.length l [] (Nat.le_refl _)).1
  have h2 := sum_le_of (f := M7.tokW) (g := tokQ) (tokens l) tokW_le
  have h3 := sum_le_of (f := fun t => t.text.size) (g := tokQ) (tokens l) (fun t => by unfold tokQ; omega)
  have h4 := len_sumQ (tokens l)
  unfold qs at h1
  exact ⟨by omega, by omega, by omega⟩
end M5
def REF8 (l : List UInt8) : Prop := (M5.tokens l).length ≤ 100000 ∧ ((M5.tokens l).map M7.tokW).sum ≤ 100000 ∧ ((M5.tokens l).map fun t => t.text.size).sum ≤ 536870912
set_option maxHeartbeats 2000000 in
set_option maxRecDepth 100000 in
theorem ref08Text (s : ByteArray) (w : World) (hs : s.size ≤ 1073741824) (hr8 : REF8 s.data.toList) :
    Calls Tryz.prog 30 #[.string s] w (ShrP (fun _ => False) (M7.tree (M5.tokens s.data.toList)) w) := by
  have hT := Lib.hid (ref05Tokens s w hs)
  obtain ⟨hf1, hf2, hf3⟩ := hr8
  obtain ⟨wo, rfl⟩ : ∃ wo : World, wo = w := ⟨_, rfl⟩
  generalize M5.tokens s.data.toList = T at *
  go_enter Tryz.func30, Tryz.ntmps30
  go_wp2_with fail
  refine hT.out.mono ?_
  rintro e w1 ⟨v1, rfl, hl, hb⟩
  have hTR := TokR.ofT hl
  have hz := hb.size
  have hR := Lib.hid (ref07Tree _ v1 T w1 (fun b h => h.2) hTR hf1 hf2 hf3)
  obtain ⟨a, cap, rfl⟩ := hl.slice
  clear hl hTR
  go_wp2_with fail
  refine hR.out.mono ?_
  rintro e w2 ⟨v2, rfl, hr2, hb2⟩
  have hz2 := hb2.size
  have hres : Hid (ShrP (fun _ => False) (M7.tree T) wo (.returned v2) w2) := ⟨v2, rfl, hr2.mono fun b h => .inr (by
    rcases h with h | h
    · exact ⟨by omega, by omega⟩
    · exact ⟨by omega, h.2⟩), bt hb hb2⟩
  obtain ⟨a2, c2, rfl⟩ := hr2.slice
  clear hr2
  go_wp2_with fail
  go_ret
  exact hres.out
set_option maxHeartbeats 2000000 in
set_option maxRecDepth 100000 in
theorem ref08Bytes (v : Value) (l : List UInt8) (w : World) (hs : Sl w v (u8s l)) (hl : l.length ≤ 5000) :
    Calls Tryz.prog 12 #[v] w (ShrP (fun _ => False) (M7.tree (M5.tokens (M1.right l))) w) := by
  have hR := Lib.hid (ref01Right v l w hs (by omega))
  have hT := Lib.hid (fun W => ref08Text (M5.bs (M1.right l)) W (by rw [bs_size]; have := M1.right_len l; omega) (by rw [M5.bs_data]; exact M5.toks_fit2 _ (by have := M1.right_len l; omega)))
  rw [M5.bs_data] at hT
  obtain ⟨a, cap, rfl, -, -⟩ := hs.len8
  clear hs
  obtain ⟨wo, rfl⟩ : ∃ wo : World, wo = w := ⟨_, rfl⟩
  go_enter Tryz.func12, Tryz.ntmps12
  go_wp2_with fail
  refine hR.out.mono ?_
  rintro e w1 ⟨rfl, hb⟩
  have hz := hb.size
  have hT1 := Lib.hid (hT.out w1)
  clear hT
  go_wp2_with fail
  refine hT1.out.mono ?_
  rintro e w2 ⟨v2, rfl, hr2, hb2⟩
  have hres : Hid (ShrP (fun _ => False) (M7.tree (M5.tokens (M1.right l))) wo (.returned v2) w2) := ⟨v2, rfl, hr2.mono fun b h => h.elim (fun h => h.elim) (fun h => .inr ⟨by omega, h.2⟩), bt hb hb2⟩
  obtain ⟨a2, c2, rfl⟩ := hr2.slice
  clear hr2
  go_wp2_with fail
  go_ret
  exact hres.out
end Go.Proofs.YteefodibpjgicaaGreat

namespace Go.Proofs.YteefodibpjgicaaGreat
open Go.RowKit
def exB8 : List UInt8 := [60, 112, 62, 97, 60, 100, 105, 118, 62, 98]
def exT8 : List UInt8 := [60, 112, 62, 97, 60, 47, 112, 62, 60, 100, 105, 118, 62, 98, 60, 47, 100, 105, 118, 62]
def exA8 : Nd := .mk 2 ⟨#[]⟩ [] ⟨#[97]⟩ []
def exC8 : Nd := .mk 2 ⟨#[]⟩ [] ⟨#[98]⟩ []
def exP8 : Nd := .mk 1 ⟨#[112]⟩ [] ⟨#[]⟩ [exA8]
def exD8 : Nd := .mk 1 ⟨#[100, 105, 118]⟩ [] ⟨#[]⟩ [exC8]
def exL8 : List Nd := [exP8, exD8]
theorem ex8_toks : M5.tokens exB8 = [⟨1, ⟨#[112]⟩, [], ⟨#[]⟩⟩, ⟨3, ⟨#[]⟩, [], ⟨#[97]⟩⟩, ⟨1, ⟨#[100, 105, 118]⟩, [], ⟨#[]⟩⟩, ⟨3, ⟨#[]⟩, [], ⟨#[98]⟩⟩] := by kernel_rfl
theorem ex8_tree : M7.tree [⟨1, ⟨#[112]⟩, [], ⟨#[]⟩⟩, ⟨3, ⟨#[]⟩, [], ⟨#[97]⟩⟩, ⟨1, ⟨#[100, 105, 118]⟩, [], ⟨#[]⟩⟩, ⟨3, ⟨#[]⟩, [], ⟨#[98]⟩⟩] = exL8 := by kernel_rfl
theorem ex8_text : M4.textB false exL8 = exT8 := by kernel_rfl
theorem ex8_again : M7.tree (M5.tokens exT8) = exL8 := by kernel_rfl
theorem ex8_right : M1.right exB8 = exB8 := by kernel_rfl
theorem ex8_may : M3.mayE false exL8 = 0 := by kernel_rfl
theorem ex8_keeps : again exL8 = exL8 := by
  unfold again
  rw [if_pos ex8_may, ex8_text, ex8_again]
theorem ex8_fit : FitN exL8 := by
  have h0' : M3.weight exA8.kids = 0 := by kernel_rfl
  have h0'' : M3.weight exC8.kids = 0 := by kernel_rfl
  have h1 : M3.weight exP8.kids = 1 := by kernel_rfl
  have h2 : M3.weight exD8.kids = 1 := by kernel_rfl
  refine fitN_cons.2 ⟨⟨by decide, by decide, ?_, by rw [h1]; decide⟩, fitN_cons.2 ⟨⟨by decide, by decide, ?_, by rw [h0']; decide⟩, fitN_nil, fitN_nil⟩, fitN_cons.2 ⟨⟨by decide, by decide, ?_, by rw [h2]; decide⟩, fitN_cons.2 ⟨⟨by decide, by decide, ?_, by rw [h0'']; decide⟩, fitN_nil, fitN_nil⟩, fitN_nil⟩⟩
  · intro a ha; simp [exP8, Nd.attrs] at ha
  · intro a ha; simp [exA8, Nd.attrs] at ha
  · intro a ha; simp [exD8, Nd.attrs] at ha
  · intro a ha; simp [exC8, Nd.attrs] at ha
set_option maxHeartbeats 4000000 in
set_option maxRecDepth 100000 in
theorem lives08 (w : World) (hg : Glo w) : Calls Tryz.prog 15 #[] w fun e w' => e = .returned (.bool true) ∧ Below w.heap.size w w' := by
  obtain ⟨wo, rfl⟩ : ∃ wo : World, wo = w := ⟨_, rfl⟩
  have hcv := fun (w : World) (C : Array Value) (n c : Nat) => Lib.run_convert_bytes_const (P := Tryz.prog) w 22 5 C n c Tryz.underlying22 Tryz.underlying5
  obtain ⟨w1, hw1⟩ : ∃ W, wo.alloc (.cells (u8s exB8).toArray 5 (10, 11)) = W := ⟨_, rfl⟩
  have bx : w1.heap[wo.heap.size]? = some (.cells (u8s exB8).toArray 5 (10, 11)) := by rw [← hw1]; exact heap_alloc_new wo _
  have hb1 : Below wo.heap.size wo w1 := by rw [← hw1]; exact (Below.refl _ _).alloc (Nat.le_refl _) _
  have hSl : Sl w1 (.slice (some ⟨wo.heap.size, 0, none⟩) 10 10) (u8s exB8) := by
    refine ⟨some ⟨wo.heap.size, 0, none⟩, 10, rfl, by decide, by decide, by simp, fun _ => ⟨wo.heap.size, 0, rfl, fun j hj => ?_⟩⟩
    rw [Nat.zero_add, cell_of_row w1 wo.heap.size j _ _ _ bx]
    simp
  have hP := Lib.hid (parBytes _ exB8 w1 (hg.below hb1 (Nat.le_refl _)) hSl (by decide))
  rw [ex8_right, ex8_toks, ex8_tree] at hP
  clear hSl bx
  go_enter Tryz.func15, Tryz.ntmps15
  go_wp2_with fail
  rw [show wo.alloc (.cells #[.int .u8 60, .int .u8 112, .int .u8 62, .int .u8 97, .int .u8 60, .int .u8 100, .int .u8 105, .int .u8 118, .int .u8 62, .int .u8 98] 5 (10, 11)) = w1 from hw1]
  clear hw1
  go_wp2_with fail
  refine hP.out.mono ?_
  rintro e w2 ⟨v2, rfl, hr2, hb2⟩
  have hR := shr_lt hr2
  have hb02 := bt hb1 hb2
  have hK := Lib.hid (parKeeps _ v2 exL8 w2 (hg.below hb02 (Nat.le_refl _)) (fun b h => h) hR ex8_fit (by rw [ex8_text]; decide) (M5.toks_fit _ (by rw [ex8_text]; decide)).1)
  rw [ex8_keeps, M3.sameN_self] at hK
  obtain ⟨a5, c5, rfl⟩ := hR.slice
  obtain ⟨b5, o5, va5, vk5, rfl, -, -, y1, -, -, y4, hrv⟩ := hR.at_ 0 (by decide)
  obtain ⟨b5', o5', va5', vk5', e5, -, -, z1, -, -, -, -⟩ := hR.at_ 1 (by decide)
  cases e5
  simp only [Nat.zero_mul, Nat.one_mul, Nat.add_zero] at y1 y4 z1
  obtain ⟨ak, ck, rfl⟩ := hrv.2.slice
  obtain ⟨b6, o6, va6, vk6, rfl, -, -, -, -, x3, -, -⟩ := hrv.2.at_ 0 (by decide)
  simp only [Nat.zero_mul, Nat.add_zero] at x3
  replace y1 : w2.cell? ⟨b5, o5 + 1, none⟩ = some (.string ⟨#[112]⟩) := y1
  replace y4 : w2.cell? ⟨b5, o5 + 4, none⟩ = some (.slice (some ⟨b6, o6, none⟩) 1 ck) := y4
  replace z1 : w2.cell? ⟨b5, o5 + 5 + 1, none⟩ = some (.string ⟨#[100, 105, 118]⟩) := z1
  replace x3 : w2.cell? ⟨b6, o6 + 3, none⟩ = some (.string ⟨#[97]⟩) := x3
  clear hr2 hR hrv hP
  change Hid (Calls Tryz.prog 21 #[.slice (some ⟨b5, o5, none⟩) 2 c5] w2 (SamePost true w2)) at hK
  go_wp2_with fail
  refine hK.out.mono ?_
  rintro e w3 ⟨rfl, hb3⟩
  have hb03 := bt hb02 hb3
  go_wp2_with fail
  go_ret
  exact ⟨rfl, hb03⟩
set_option maxHeartbeats 2000000 in
set_option maxRecDepth 100000 in
theorem few08 (v : Value) (l : List UInt8) (w : World) (hs : Sl w v (u8s l)) : Calls Tryz.prog 9 #[v] w fun e w' => w' = w ∧ ∃ v', e = .returned v' ∧ Sl w v' (u8s (l.take 300)) := by
  obtain ⟨a, cap, rfl, hlc, hcm⟩ := hs.len8
  by_cases hgt : 300 < l.length
  · have hT := Lib.hid (hs.take8 300 (by omega))
    have hgti : decide ((300 : Int) < (l.length : Int)) = true := decide_eq_true (by omega)
    have hz : ∃ p, a = some p := by
      obtain ⟨a', c', e, h1, h2, h3, h4⟩ := hs
      simp only [Value.slice.injEq] at e
      obtain ⟨rfl, -, rfl⟩ := e
      cases a with
      | none => have := h3 rfl; omega
      | some p => exact ⟨p, rfl⟩
    obtain ⟨p, rfl⟩ := hz
    have h21 : (300 : Int) ≤ (cap : Int) := by omega
    clear hs
    go_enter Tryz.func9, Tryz.ntmps9
    go_wp2_with fail
    go_ret
    exact ⟨rfl, _, rfl, hT.out⟩
  · have hgti : decide ((300 : Int) < (l.length : Int)) = false := decide_eq_false (by omega)
    have hT : Hid (Sl w (.slice a l.length cap) (u8s (l.take 300))) := by rw [List.take_of_length_le (by omega)]; exact hs
    clear hs
    go_enter Tryz.func9, Tryz.ntmps9
    go_wp2_with fail
    go_ret
    exact ⟨rfl, _, rfl, hT.out⟩
end Go.Proofs.YteefodibpjgicaaGreat

namespace Go.Proofs.YteefodibpjgicaaGreat
namespace M7
open M3 (isText withText cat push)
def lastT (pt : Bool) (L : List Nd) : Bool := match L.getLast? with | some y => y.kind == 2 | none => pt
theorem lastT_cons (pt : Bool) (y : Nd) (r : List Nd) : lastT pt (y :: r) = lastT (y.kind == 2) r := by
  unfold lastT
  rw [List.getLast?_cons]
  cases r.getLast? <;> rfl
theorem lastT_snoc (pt : Bool) (A : List Nd) (y : Nd) : lastT pt (A ++ [y]) = (y.kind == 2) := by unfold lastT; simp
def lastN (p : ByteArray) (o : List ByteArray) : ByteArray := o.getLast?.getD p
theorem lastN_cons (p x : ByteArray) (o : List ByteArray) : lastN p (x :: o) = lastN x o := by unfold lastN; rw [List.getLast?_cons]; rfl
theorem closeAt_stop (o : List ByteArray) (b : ByteArray) (n : Nat) : closeAt o b n = 0 ∨ M6.closesB (o.getD (closeAt o b n - 1) ⟨#[]⟩).data.toList b.data.toList = false := by
  induction n with
  | zero => exact .inl rfl
  | succ n ih =>
    rw [closeAt]
    split
    · exact ih
    · rename_i h
      exact .inr (by simpa using h)
theorem lastN_take {o : List ByteArray} {n : Nat} (hn : n ≤ o.length) : lastN ⟨#[]⟩ (o.take n) = if n = 0 then ⟨#[]⟩ else o.getD (n - 1) ⟨#[]⟩ := by
  unfold lastN
  split
  · rename_i h; rw [h]; rfl
  · rename_i h
    rw [List.getLast?_eq_getElem?, List.length_take, Nat.min_eq_left hn, List.getElem?_take, if_pos (by omega)]
    rfl
end M7
end Go.Proofs.YteefodibpjgicaaGreat

namespace Go.Proofs.YteefodibpjgicaaGreat
namespace M7
open M3 (isText withText cat push mayE oneE)
def begT (x : Nd) : Tok := ⟨1, x.name, x.attrs, ⟨#[]⟩⟩
def endT (x : Nd) : Tok := ⟨2, x.name, [], ⟨#[]⟩⟩
def toksN : List Nd → List Tok
  | [] => []
  | .mk k n a t ks :: r =>
    (if k = 1 then ⟨1, n, a, ⟨#[]⟩⟩ :: (if M3.voidB n.data.toList then [] else toksN ks ++ [⟨2, n, [], ⟨#[]⟩⟩])
     else if k = 2 then [⟨3, ⟨#[]⟩, [], t⟩] else [⟨4, ⟨#[]⟩, [], t⟩]) ++ toksN r
termination_by l => SizeOf.sizeOf l
def tokOne (x : Nd) : List Tok :=
  if x.kind = 1 then begT x :: (if M3.voidB x.name.data.toList then [] else toksN x.kids ++ [endT x])
  else if x.kind = 2 then [⟨3, ⟨#[]⟩, [], x.text⟩] else [⟨4, ⟨#[]⟩, [], x.text⟩]
theorem toksN_nil : toksN [] = [] := by rw [toksN]
theorem toksN_cons (x : Nd) (r : List Nd) : toksN (x :: r) = tokOne x ++ toksN r := by cases x; rw [toksN]; rfl
theorem may_cons {p : Bool} {x : Nd} {r : List Nd} (h : mayE p (x :: r) = 0) : oneE x p = 0 ∧ mayE false x.kids = 0 ∧ mayE (x.kind == 2) r = 0 := by
  rw [M3.mayE_cons] at h
  by_cases h1 : oneE x p = 0
  · by_cases h2 : mayE false x.kids = 0
    · rw [if_neg (by simp [h1]), if_neg (by simp [h2])] at h
      exact ⟨h1, h2, h⟩
    · rw [if_neg (by simp [h1]), if_pos h2] at h
      exact absurd h h2
  · rw [if_pos h1] at h
    exact absurd h h1
theorem nil_of {s : ByteArray} (h : M3.nilB s = true) : s = ⟨#[]⟩ := by
  rw [M3.nilB_data'] at h
  cases s with
  | mk d => cases d with
    | mk l => cases l with
      | nil => rfl
      | cons a r => simp at h
theorem one_kinds {x : Nd} {p : Bool} (h : oneE x p = 0) :
    (x.kind = 1 ∧ x.text = ⟨#[]⟩ ∧ M3.namedB x.name.data.toList = true ∧ M3.namesE [] x.attrs = 0 ∧ M3.valuesE x.attrs = 0) ∨
    (x.kind = 2 ∧ x = .mk 2 ⟨#[]⟩ [] x.text [] ∧ M1.isB x.text.data.toList = true ∧ M3.nilB x.text = false ∧ p = false) ∨
    (x.kind = 3 ∧ x = .mk 3 ⟨#[]⟩ [] x.text [] ∧ M1.isB x.text.data.toList = true) := by
  unfold oneE at h
  have pl : ∀ k, x.kind = k → M3.plainB x = true → x = .mk k ⟨#[]⟩ [] x.text [] := fun k hk hp => by
    unfold M3.plainB at hp
    simp only [Bool.and_eq_true, List.isEmpty_iff] at hp
    obtain ⟨⟨h1, h2⟩, h3⟩ := hp
    have h1 := nil_of h1
    cases x with
    | mk kk n a t ks =>
      have hk : kk = k := hk
      have h1 : n = ⟨#[]⟩ := h1
      have h2 : a = [] := h2
      have h3 : ks = [] := h3
      subst hk h1 h2 h3
      rfl
  by_cases h1 : x.kind = 1
  · rw [if_pos h1] at h
    unfold M3.elemE at h
    left
    cases ht : M3.nilB x.text
    · simp [ht] at h
    · cases hn : M3.namedB x.name.data.toList
      · simp [ht, hn] at h
      · rw [ht, hn, if_pos rfl, if_pos rfl] at h
        by_cases ha : M3.namesE [] x.attrs = 0
        · rw [if_pos ha] at h
          exact ⟨h1, nil_of ht, rfl, ha, h⟩
        · rw [if_neg ha] at h
          exact absurd h ha
  rw [if_neg h1] at h
  by_cases h2 : x.kind = 2
  · rw [if_pos h2] at h
    right; left
    cases hp : M3.plainB x
    · simp [hp] at h
    · rw [hp, if_pos rfl] at h
      cases hb : M1.isB x.text.data.toList
      · simp [hb] at h
      · rw [hb] at h
        cases hn : M3.nilB x.text
        · cases hq : p
          · exact ⟨h2, pl 2 h2 hp, rfl, rfl, rfl⟩
          · simp [hn, hq] at h
        · simp [hn] at h
  rw [if_neg h2] at h
  by_cases h3 : x.kind = 3
  · rw [if_pos h3] at h
    right; right
    cases hp : M3.plainB x
    · simp [hp] at h
    · cases hb : M1.isB x.text.data.toList
      · simp [hp, hb] at h
      · exact ⟨h3, pl 3 h3 hp, rfl⟩
  · simp [if_neg h3] at h
theorem may_apart {l : List Nd} {p : Bool} (h : mayE p l = 0) : M3.apart p l = true := (M6.ok_of_may l p h).2
def putAll (d : Nat) (l : List Nd) (L : List Nd) : List Nd := l.foldl (fun L x => putN d x L) L
theorem wk_wk7 (x : Nd) (a b : List Nd) : wk (wk x a) b = wk x b := rfl
theorem putAll_snoc (d : Nat) (A : List Nd) (x : Nd) (l : List Nd) : putAll (d + 1) l (A ++ [x]) = A ++ [wk x (putAll d l x.kids)] := by
  induction l generalizing x with
  | nil => show A ++ [x] = A ++ [wk x x.kids]; cases x; rfl
  | cons y r ih =>
    show putAll (d + 1) r (putN (d + 1) y (A ++ [x])) = _
    rw [putN_snoc, ih]
    rfl
theorem putAll_kids {d : Nat} : ∀ {L : List Nd} (e : Nd) (ks : List Nd), okD d L → isText e = false → putAll (d + 1) ks (putN d e L) = putN d (wk e (ks.foldl push e.kids)) L := by
  induction d with
  | zero =>
    intro L e ks _ he
    have hp : ∀ e : Nd, isText e = false → push L e = L ++ [e] := fun e he => push_node e he
    show putAll 1 ks (push L e) = push L _
    rw [hp e he, hp _ (by exact he), putAll_snoc]
    rfl
  | succ d ih =>
    intro L e ks hok he
    rcases List.eq_nil_or_concat L with rfl | ⟨A, y, rfl⟩
    · exact hok.elim
    · rw [List.concat_eq_append] at *
      rw [okD_snoc] at hok
      rw [putN_snoc, putN_snoc, putAll_snoc, wk_wk7]
      show A ++ [wk y (putAll (d + 1) ks (putN d e y.kids))] = _
      rw [ih e ks hok he]
theorem closed_none (b : List UInt8) : M6.closesB [] b = false := by
  unfold M6.closesB M6.closedL
  simp
theorem closeAt_last {o : List ByteArray} {b : ByteArray} {d : Nat} (hd : o.length = d) (h : M6.closesB (lastN ⟨#[]⟩ o).data.toList b.data.toList = false) : closeAt o b d = d := by
  cases d with
  | zero => rfl
  | succ d =>
    rw [closeAt, if_neg]
    have : lastN ⟨#[]⟩ o = o.getD d ⟨#[]⟩ := by
      have := lastN_take (o := o) (n := d + 1) (by omega)
      rw [List.take_of_length_le (by omega), if_neg (by omega)] at this
      exact this
    rw [← this, h]
    simp
theorem endAt_last (o : List ByteArray) (nm : ByteArray) : endAt (o ++ [nm]) nm (o.length + 1) = some o.length := by
  rw [endAt, if_pos]
  simp
theorem run_nodes (l : List Nd) : ∀ (L : List Nd) (d : Nat) (p : Bool), okD d L → (∀ x ∈ l, x.kind = 1 → M6.closesB (lastN ⟨#[]⟩ (openN d L)).data.toList x.name.data.toList = false) → M6.allB l = true → mayE p l = 0 →
    (toksN l).foldl step ⟨L, d⟩ = ⟨putAll d l L, d⟩ := by
  induction l using Nd.ind with
  | h0 => intro L d p _ _ _ _; rw [toksN_nil]; rfl
  | h1 k n a t ks r ih1 ih2 =>
    intro L d p hok hc hall hmay
    obtain ⟨m1, m2, m3⟩ := may_cons hmay
    rw [M6.allB_cons, Bool.and_eq_true] at hall
    obtain ⟨a1, a2⟩ := hall
    unfold M6.oneS at a1
    simp only [Bool.and_eq_true] at a1
    obtain ⟨-, a3, a4⟩ := a1
    rw [toksN_cons, List.foldl_append]
    have key : (tokOne (.mk k n a t ks)).foldl step ⟨L, d⟩ = ⟨putN d (.mk k n a t ks) L, d⟩ := by
      rcases one_kinds m1 with ⟨hk, ht, -⟩ | ⟨hk, hx, -⟩ | ⟨hk, hx, -⟩
      · have hk : k = 1 := hk
        have ht : t = ⟨#[]⟩ := ht
        subst hk ht
        have hol := openN_len hok
        have hcl := closeAt_last hol (hc (.mk 1 n a ⟨#[]⟩ ks) (by simp) rfl)
        have hs1 : step ⟨L, d⟩ (begT (.mk 1 n a ⟨#[]⟩ ks)) = ⟨putN d (.mk 1 n a ⟨#[]⟩ []) L, if M3.voidB n.data.toList then d else d + 1⟩ := by
          unfold step
          rw [if_pos (show (begT (.mk 1 n a ⟨#[]⟩ ks)).kind = 1 from rfl)]
          show (⟨putN (closeAt (openN d L) n d) _ L, if _ then closeAt (openN d L) n d else closeAt (openN d L) n d + 1⟩ : St) = _
          rw [show closeAt (openN d L) n d = d from hcl]
          rfl
        unfold tokOne
        rw [if_pos (show (Nd.mk 1 n a ⟨#[]⟩ ks).kind = 1 from rfl)]
        show (if M3.voidB n.data.toList then [] else toksN ks ++ [endT (.mk 1 n a ⟨#[]⟩ ks)]).foldl step (step ⟨L, d⟩ _) = _
        rw [hs1]
        cases hv : M3.voidB n.data.toList
        · rw [if_neg Bool.false_ne_true, if_neg Bool.false_ne_true, List.foldl_append]
          obtain ⟨o1, o2, -⟩ := put_open (.mk 1 n a ⟨#[]⟩ []) hok rfl
          have hln : lastN ⟨#[]⟩ (openN (d + 1) (putN d (.mk 1 n a ⟨#[]⟩ []) L)) = n := by
            rw [o2]; unfold lastN; simp; rfl
          rw [ih1 _ (d + 1) false o1 (fun x hx hk => by
            rw [hln]
            have h := List.all_eq_true.1 a3 x hx
            unfold M6.fitsB at h
            change (if M3.voidB n.data.toList = true then false else if M3.rawB n.data.toList = true then isText x && _ else !(decide (x.kind = 1) && M6.closesB n.data.toList x.name.data.toList)) = true at h
            rw [hv, if_neg Bool.false_ne_true] at h
            split at h
            · rw [Bool.and_eq_true] at h
              have : x.kind = 2 := by simpa [isText] using h.1
              omega
            · simpa [hk] using h) a4 m2]
          have hks : putAll (d + 1) ks (putN d (.mk 1 n a ⟨#[]⟩ []) L) = putN d (.mk 1 n a ⟨#[]⟩ ks) L := by
            rw [putAll_kids _ ks hok rfl]
            have hm : ks.foldl push [] = ks := by
              have := M3.merge_apart ks [] (fun y h => by simp at h) (may_apart m2)
              simpa using this
            show putN d (wk (.mk 1 n a ⟨#[]⟩ []) (ks.foldl push [])) L = _
            rw [hm]
            rfl
          rw [hks]
          obtain ⟨q1, q2, -⟩ := put_open (.mk 1 n a ⟨#[]⟩ ks) hok rfl
          show step _ (endT _) = _
          unfold step
          rw [if_neg (show ¬ (endT (.mk 1 n a ⟨#[]⟩ ks)).kind = 1 by show ¬ (2 : Int) = 1; decide), if_pos (show (endT (.mk 1 n a ⟨#[]⟩ ks)).kind = 2 from rfl)]
          show (match endAt (openN (d + 1) (putN d _ L)) n (d + 1) with | some i => (⟨_, i⟩ : St) | none => _) = _
          rw [q2]
          have := endAt_last (openN d L) n
          rw [hol] at this
          rw [show (openN d L ++ [(Nd.mk 1 n a ⟨#[]⟩ ks).name]) = openN d L ++ [n] from rfl, this]
        · have hks : ks = [] := by
            cases ks with
            | nil => rfl
            | cons x r =>
              have h := List.all_eq_true.1 a3 x (by show x ∈ x :: r; simp)
              unfold M6.fitsB at h
              rw [show (Nd.mk 1 n a ⟨#[]⟩ (x :: r)).name = n from rfl, hv] at h
              simp at h
          subst hks
          rfl
      · unfold tokOne
        have hk : k = 2 := hk
        rw [if_neg (show ¬ (Nd.mk k n a t ks).kind = 1 by show ¬ k = 1; omega), if_pos (show (Nd.mk k n a t ks).kind = 2 from hk), hx]
        rfl
      · unfold tokOne
        have hk : k = 3 := hk
        rw [if_neg (show ¬ (Nd.mk k n a t ks).kind = 1 by show ¬ k = 1; omega), if_neg (show ¬ (Nd.mk k n a t ks).kind = 2 by show ¬ k = 2; omega), hx]
        rfl
    rw [key]
    obtain ⟨k1, k2, -⟩ := put_keeps (.mk k n a t ks) hok
    rw [ih2 _ d _ k1 (fun x hx => by rw [k2]; exact hc x (by simp [hx])) a2 m3]
    rfl
theorem tree_nodes {l : List Nd} (hall : M6.allB l = true) (hmay : mayE false l = 0) : tree (toksN l) = l := by
  show ((toksN l).foldl step ⟨[], 0⟩).L = l
  rw [run_nodes l [] 0 false trivial (fun x _ _ => closed_none _) hall hmay]
  show l.foldl push [] = l
  have := M3.merge_apart l [] (fun y h => by simp at h) (may_apart hmay)
  simpa using this
end M7
end Go.Proofs.YteefodibpjgicaaGreat

namespace Go.Proofs.YteefodibpjgicaaGreat.M5
theorem esc_lt (v : Bool) (c : UInt8) : ∀ x ∈ M2.esc v c, x ≠ 60 := by
  unfold M2.esc
  split
  · decide
  split
  · decide
  split
  · decide
  split
  · decide
  · rename_i h1 h2 h3 h4
    intro x hx
    simp at hx
    subst hx
    exact h2
theorem escape_lt (v : Bool) (l : List UInt8) : ∀ x ∈ M2.escape v l, x ≠ 60 := by
  intro x hx
  obtain ⟨c, _, h⟩ := List.mem_flatMap.1 hx
  exact esc_lt v c x h
theorem plainN_upto (a b : List UInt8) (h : ∀ x ∈ a, x ≠ 60) : plainN (a ++ b) = a.length + plainN b := by
  have := plainN_skip a.length (a ++ b) (by simp) (fun k hk => by
    cases hs : startsB ((a ++ b).drop k)
    · rfl
    · obtain ⟨t, ht⟩ := starts_head _ hs
      rw [List.drop_append_of_le_length (by omega)] at ht
      rw [List.drop_eq_getElem_cons hk] at ht
      exact absurd (List.cons.inj ht).1 (h _ (List.getElem_mem hk)))
  rw [this]
  congr 2
  simp
theorem escape_ne (v : Bool) (l : List UInt8) (h : l ≠ []) : M2.escape v l ≠ [] := by
  intro e
  have := congrArg M2.decode e
  rw [M2.decode_escape, M2.decode_nil] at this
  exact h this
end Go.Proofs.YteefodibpjgicaaGreat.M5

namespace Go.Proofs.YteefodibpjgicaaGreat.M5
theorem quoted_own (q : UInt8) (v t : List UInt8) (h : ∀ x ∈ v, x ≠ q) : quoted q (v ++ q :: t) = (v, t) := by
  unfold quoted
  induction v with
  | nil => simp
  | cons c r ih =>
    have hc : (c != q) = true := bne_iff_ne.2 (h c (by simp))
    have := ih (fun x hx => h x (by simp [hx]))
    simp only [Prod.mk.injEq] at this
    rw [List.cons_append, List.takeWhile_cons, List.dropWhile_cons, hc, if_pos rfl, if_pos rfl, this.1, this.2]
end Go.Proofs.YteefodibpjgicaaGreat.M5

namespace Go.Proofs.YteefodibpjgicaaGreat.M5
theorem tw_all (q : UInt8 → Bool) (a : List UInt8) (x : UInt8) (b : List UInt8) (h : ∀ c ∈ a, q c = true) (hx : q x = false) : (a ++ x :: b).takeWhile q = a ∧ (a ++ x :: b).dropWhile q = x :: b := by
  induction a with
  | nil => rw [List.nil_append, List.takeWhile_cons, List.dropWhile_cons, hx]; exact ⟨rfl, rfl⟩
  | cons c r ih =>
    obtain ⟨i1, i2⟩ := ih (fun y hy => h y (by simp [hy]))
    rw [List.cons_append, List.takeWhile_cons, List.dropWhile_cons, h c (by simp), if_pos rfl, if_pos rfl, i1, i2]
    exact ⟨rfl, rfl⟩
theorem small_own {c : UInt8} (h : M3.capB c = false) : M1.small c = c := by
  unfold M3.capB at h
  unfold M1.small
  rw [if_neg]
  simpa using h
theorem fold_own (l : List UInt8) (h : ∀ c ∈ l, M3.capB c = false) : M1.fold l = l := by
  unfold M1.fold
  induction l with
  | nil => rfl
  | cons c r ih => rw [List.map_cons, small_own (h c (by simp)), ih (fun y hy => h y (by simp [hy]))]
theorem att_facts {l : List UInt8} (h : M3.attributedB l = true) : (∃ c r, l = c :: r) ∧ (∀ c ∈ l, M3.capB c = false) ∧ ∀ c ∈ l, keyB c = true ∧ c ≠ 62 := by
  unfold M3.attributedB at h
  rw [Bool.and_eq_true, Bool.and_eq_true, Bool.and_eq_true] at h
  obtain ⟨h1, ⟨_, h2⟩, h3⟩ := h
  refine ⟨?_, fun c hc => ?_, fun c hc => ?_⟩
  · cases l with
    | nil => cases h1
    | cons c r => exact ⟨c, r, rfl⟩
  · have := List.any_eq_false.1 (by simpa using h2) c hc
    simpa using this
  · have := List.any_eq_false.1 (show l.any M3.badB = false by simpa using h3) c hc
    have hb : M3.badB c = false := by simpa using this
    unfold M3.badB at hb
    simp only [Bool.or_eq_false_iff] at hb
    obtain ⟨⟨⟨⟨⟨⟨b9, b10⟩, b12⟩, b32⟩, b47⟩, b62⟩, b61⟩ := hb
    have key : ∀ d : UInt8, (c.toNat == d.toNat) = false → (c == d) = false := fun d hd => by
      rw [beq_eq_false_iff_ne] at hd ⊢
      intro e
      exact hd (by rw [e])
    have k62 := key 62 b62
    refine ⟨?_, beq_eq_false_iff_ne.1 k62⟩
    unfold keyB stopB blankB
    rw [key 9 b9, key 10 b10, key 12 b12, key 32 b32, key 47 b47, k62, key 61 b61]
    rfl
theorem name_facts {l : List UInt8} (h : M3.namedB l = true) : (∃ c r, l = c :: r ∧ letterB c = true) ∧ (∀ c ∈ l, M3.capB c = false) ∧ ∀ c ∈ l, nameB c = true := by
  cases l with
  | nil => cases h
  | cons c r =>
    have h' : (M3.smallB c && r.all M3.nameB) = true := h
    rw [Bool.and_eq_true] at h'
    obtain ⟨h1, h2⟩ := h'
    have hs : ∀ d : UInt8, M3.smallB d = true → letterB d = true ∧ M3.capB d = false ∧ nameB d = true := fun d hd => by
      unfold M3.smallB at hd
      have hd := of_decide_eq_true hd
      have hl : letterB d = true := by unfold letterB; simp; omega
      refine ⟨hl, ?_, ?_⟩
      · unfold M3.capB; simp; omega
      · unfold nameB; rw [hl]; rfl
    have hn : ∀ d : UInt8, M3.nameB d = true → M3.capB d = false ∧ nameB d = true := fun d hd => by
      unfold M3.nameB at hd
      rw [Bool.or_eq_true] at hd
      rcases hd with hd | hd
      · exact ⟨(hs d hd).2.1, (hs d hd).2.2⟩
      · have hd := of_decide_eq_true hd
        refine ⟨by unfold M3.capB; simp; omega, ?_⟩
        unfold nameB
        rcases hd with h45 | h48
        · have : d = 45 := UInt8.toNat_inj.1 h45
          subst this
          decide
        · rw [show decide (48 ≤ d.toNat ∧ d.toNat ≤ 57) = true from decide_eq_true h48]
          simp
    refine ⟨⟨c, r, rfl, (hs c h1).1⟩, fun d hd => ?_, fun d hd => ?_⟩
    · rcases List.mem_cons.1 hd with rfl | hd
      · exact (hs _ h1).2.1
      · exact (hn _ (List.all_eq_true.1 h2 _ hd)).1
    · rcases List.mem_cons.1 hd with rfl | hd
      · exact (hs _ h1).2.2
      · exact (hn _ (List.all_eq_true.1 h2 _ hd)).2
theorem key_over {c : UInt8} (h : keyB c = true) : overB c = false := by
  unfold keyB stopB at h
  unfold overB
  revert h
  cases blankB c <;> cases (c == 47) <;> cases (c == 62) <;> cases (c == 61) <;> simp
theorem attB_step (a : Att) (rest : List UInt8) (acc : List Att) (h : M3.attributedB a.name.data.toList = true) : attsR (M4.attB a ++ rest) acc = attsR rest (addT acc a) := by
  obtain ⟨⟨c, r, hc⟩, hcap, hk⟩ := att_facts h
  obtain ⟨X, hX⟩ : ∃ X, X = a.name.data.toList ++ 61 :: (34 :: (M2.escape true a.value.data.toList ++ 34 :: rest)) := ⟨_, rfl⟩
  have e1 : M4.attB a ++ rest = 32 :: X := by rw [hX]; unfold M4.attB; simp
  have hXc : X = c :: (r ++ 61 :: (34 :: (M2.escape true a.value.data.toList ++ 34 :: rest))) := by rw [hX, hc]; rfl
  have hkc := hk c (by rw [hc]; simp)
  have e2 : attsR (32 :: X) acc = attsR X acc := by
    rw [atts_over (32 :: X), atts_over X]
    rfl
  rw [e1, e2, hXc, atts_one c _ acc (key_over hkc.1) hkc.2, ← hXc]
  obtain ⟨t1, t2⟩ := tw_all keyB a.name.data.toList 61 (34 :: (M2.escape true a.value.data.toList ++ 34 :: rest)) (fun d hd => (hk d hd).1) (by decide)
  have hq := quoted_own 34 (M2.escape true a.value.data.toList) rest (fun x hx => (M2.escape_bare _ x hx).2.2)
  have hat : attC X = (a, rest) := by
    rw [attC_61 X (34 :: (M2.escape true a.value.data.toList ++ 34 :: rest)) (by rw [hX, t2]; rfl)]
    have hv : valC ((34 :: (M2.escape true a.value.data.toList ++ 34 :: rest)).dropWhile blankB) = (M2.escape true a.value.data.toList, rest) := by
      show valC (34 :: (M2.escape true a.value.data.toList ++ 34 :: rest)) = _
      rw [valC, if_pos (Or.inl rfl), hq]
    rw [hv, hX, t1, fold_own _ hcap, M2.decode_escape, bs_of, bs_of]
  rw [hat]
theorem addT_new (acc : List Att) (a : Att) (h : ∀ b ∈ acc, b.name ≠ a.name) : addT acc a = acc ++ [a] := by
  unfold addT
  rw [if_neg]
  intro hany
  obtain ⟨b, hb, he⟩ := List.any_eq_true.1 hany
  exact h b hb (M3.eqB_iff.1 he)
theorem atts_written (rest : List UInt8) : ∀ (l acc : List Att), (∀ a ∈ l, M3.attributedB a.name.data.toList = true) → l.Pairwise (fun a b => a.name ≠ b.name) → (∀ b ∈ acc, ∀ a ∈ l, b.name ≠ a.name) → attsR (M4.attsB l ++ 62 :: rest) acc = some (acc ++ l, rest) := by
  intro l
  induction l with
  | nil =>
    intro acc _ _ _
    show attsR (62 :: rest) acc = _
    rw [attsR_cons, if_pos rfl, List.append_nil]
  | cons a l ih =>
    intro acc h1 h2 h3
    obtain ⟨p1, p2⟩ := List.pairwise_cons.1 h2
    have e : M4.attsB (a :: l) ++ 62 :: rest = M4.attB a ++ (M4.attsB l ++ 62 :: rest) := by unfold M4.attsB; rw [List.flatMap_cons, List.append_assoc]
    rw [e, attB_step a _ acc (h1 a (by simp)), addT_new acc a (fun b hb => h3 b hb a (by simp)), ih (acc ++ [a]) (fun b hb => h1 b (by simp [hb])) p2 (fun b hb c hc => by
      rcases List.mem_append.1 hb with hb | hb
      · exact h3 b hb c (by simp [hc])
      · rw [List.mem_singleton] at hb
        subst hb
        exact p1 c hc), List.append_assoc]
    rfl
def AttsOk (l : List Att) : Prop := (∀ a ∈ l, M3.attributedB a.name.data.toList = true) ∧ l.Pairwise (fun a b => a.name ≠ b.name)
theorem head_written (n : ByteArray) (l : List Att) (rest : List UInt8) (hn : M3.namedB n.data.toList = true) (hl : AttsOk l) : startsB (M4.headB n l ++ rest) = true ∧ tagR (M4.headB n l ++ rest) = (⟨1, n, l, ⟨#[]⟩⟩, rest) := by
  obtain ⟨⟨c, r, hc, hlc⟩, hcap, hnb⟩ := name_facts hn
  have e : M4.headB n l ++ rest = 60 :: (n.data.toList ++ (M4.attsB l ++ 62 :: rest)) := by unfold M4.headB; simp
  have hx : ∃ x b, M4.attsB l ++ 62 :: rest = x :: b ∧ nameB x = false := by
    cases l with
    | nil => exact ⟨62, rest, rfl, by decide⟩
    | cons a l => exact ⟨32, _, rfl, by decide⟩
  obtain ⟨x, b, hxb, hx⟩ := hx
  obtain ⟨t1, t2⟩ := tw_all nameB n.data.toList x b hnb hx
  rw [← hxb] at t1 t2
  have hs : startsB (60 :: (n.data.toList ++ (M4.attsB l ++ 62 :: rest))) = true := by
    rw [hc]
    show (60 == 60 && (letterB c || c == 33 || c == 63 || c == 47)) = true
    rw [hlc]
    rfl
  rw [e]
  refine ⟨hs, ?_⟩
  have hb : beginR (60 :: (n.data.toList ++ (M4.attsB l ++ 62 :: rest))) = (⟨1, n, l, ⟨#[]⟩⟩, rest) := by
    rw [begin_eq]
    show (match attsR ((n.data.toList ++ (M4.attsB l ++ 62 :: rest)).dropWhile nameB) [] with | some (as_, r) => ((⟨1, bs (M1.fold ((n.data.toList ++ (M4.attsB l ++ 62 :: rest)).takeWhile nameB)), as_, ⟨#[]⟩⟩ : Tok), r) | none => (zero, [])) = _
    rw [t1, t2, atts_written rest l [] hl.1 hl.2 (fun b hb => nomatch hb), fold_own _ hcap, bs_of]
    rfl
  rw [hc] at hb hs ⊢
  unfold tagR
  rw [if_pos hs]
  show (if letterB c then _ else _ : Tok × List UInt8) = _
  rw [if_pos hlc]
  exact hb
theorem end_written (n : ByteArray) (rest : List UInt8) (hn : M3.namedB n.data.toList = true) : startsB ([60, 47] ++ (n.data.toList ++ [62]) ++ rest) = true ∧ tagR ([60, 47] ++ (n.data.toList ++ [62]) ++ rest) = (⟨2, n, [], ⟨#[]⟩⟩, rest) := by
  obtain ⟨⟨c, r, hc, hlc⟩, hcap, hnb⟩ := name_facts hn
  have e : [60, 47] ++ (n.data.toList ++ [62]) ++ rest = 60 :: 47 :: (n.data.toList ++ 62 :: rest) := by simp
  rw [e]
  have hs : startsB (60 :: 47 :: (n.data.toList ++ 62 :: rest)) = true := rfl
  refine ⟨hs, ?_⟩
  obtain ⟨t1, _⟩ := tw_all nameB n.data.toList 62 rest hnb (by decide)
  obtain ⟨u1, _⟩ := tw_all (· != 62) n.data.toList 62 rest (fun d hd => by
    rw [bne_iff_ne]
    intro e
    have := hnb d hd
    rw [e] at this
    exact absurd this (by decide)) rfl
  have hf : findL [62] (n.data.toList ++ 62 :: rest) = n.data.toList.length := by rw [findL_span]; unfold spanN; rw [u1]
  unfold tagR
  rw [if_pos hs]
  show (if letterB 47 then _ else _ : Tok × List UInt8) = _
  rw [show letterB 47 = false from by decide, if_neg Bool.false_ne_true]
  have p4 : [60, 33, 45, 45].isPrefixOf (60 :: 47 :: (n.data.toList ++ 62 :: rest)) = false := rfl
  have p3 : [60, 47, 62].isPrefixOf (60 :: 47 :: (n.data.toList ++ 62 :: rest)) = false := by
    rw [hc]
    show (60 == 60 && (47 == 47 && (62 == c && _))) = false
    have : ((62 : UInt8) == c) = false := by
      rw [beq_eq_false_iff_ne]
      intro e
      subst e
      exact absurd hlc (by decide)
    rw [this]
    rfl
  rw [p4, p3, if_neg Bool.false_ne_true, if_neg Bool.false_ne_true, if_pos ⟨rfl, by rw [hc]; exact congrArg some hlc⟩, hf, if_pos (by rw [List.length_append]; simp), t1, fold_own _ hcap, bs_of]
  congr 1
  rw [List.drop_append, List.drop_of_length_le (by omega), List.nil_append, Nat.add_sub_cancel_left]
  rfl
end Go.Proofs.YteefodibpjgicaaGreat.M5

namespace Go.Proofs.YteefodibpjgicaaGreat.M5
theorem names_atts (l : List Att) : ∀ seen : List ByteArray, M3.namesE seen l = 0 → (∀ a ∈ l, M3.attributedB a.name.data.toList = true) ∧ l.Pairwise (fun a b => a.name ≠ b.name) ∧ ∀ a ∈ l, ∀ s ∈ seen, s ≠ a.name := by
  induction l with
  | nil => intro seen _; exact ⟨fun a h => (nomatch h), List.Pairwise.nil, fun a h => (nomatch h)⟩
  | cons a r ih =>
    intro seen h
    have h : (if M3.attributedB a.name.data.toList then (if seen.any (M3.eqB a.name) then 5 else M3.namesE (seen ++ [a.name]) r) else 4) = (0 : Int) := h
    split at h
    · rename_i ha
      split at h
      · exact absurd h (by decide)
      · rename_i hs
        obtain ⟨i1, i2, i3⟩ := ih _ h
        have hns : ∀ s ∈ seen, s ≠ a.name := fun s hm e => hs (List.any_eq_true.2 ⟨s, hm, M3.eqB_iff.2 e.symm⟩)
        refine ⟨fun b hb => ?_, List.pairwise_cons.2 ⟨fun b hb => i3 b hb a.name (by simp), i2⟩, fun b hb s hm => ?_⟩
        · rcases List.mem_cons.1 hb with rfl | hb
          · exact ha
          · exact i1 b hb
        · rcases List.mem_cons.1 hb with rfl | hb
          · exact hns s hm
          · exact i3 b hb s (by simp [hm])
    · exact absurd h (by decide)
end Go.Proofs.YteefodibpjgicaaGreat.M5
