/- Package dom: Merge, walked. -/
import Derived.Test.YtjelmpajphajfaaDomM3
namespace Go.Proofs.Ytjelmpajphajfaa
open Go.RowKit

theorem txtN_filled (l : List Nd) : txtN (M3.filled l) ≤ txtN l := by
  induction l with
  | nil => exact Nat.le_refl _
  | cons x r ih =>
    rw [M3.filled_cons, txtN_cons]
    split
    · omega
    · rw [txtN_cons]; omega
def slN : Value → Nat
  | .slice _ n _ => n
  | _ => 0
set_option maxHeartbeats 8000000 in
set_option maxRecDepth 100000 in
theorem domMerge (S : Nat → Prop) (v : Value) (l : List Nd) (w : World) (hS : ∀ b, S b → b < w.heap.size) (hr : RepN S w v l) (hw : M3.weight l ≤ 1000000) (ht : txtN l ≤ 1073741824) :
    Calls Try.prog 27 #[v] w (FreshPost (M3.merge l) w) := by
  have hll := M3.length_le_weight l
  obtain ⟨xs0, hrow, hrc⟩ := hr
  obtain ⟨L, rfl, rfl, hL⟩ := RepC.nv _ _ hrc
  have hF := Lib.hid (fun W h1 h2 => domFilledV S v L W h1 h2 (fun b hb => (hL b hb).ok) (by rw [List.length_map] at hll; omega))
  rw [List.length_map] at hrow
  obtain ⟨a, cap, rfl⟩ := hrow.slice
  have hmf : Hid (M3.merge (L.map NV.x) = M3.front (M3.filled (L.map NV.x))) := M3.merge_front _
  have hwf : ∀ x ∈ M3.filled (L.map NV.x), 1 + x.attrs.length + M3.weight x.kids ≤ 1000000 := fun x hx => Nat.le_trans (weight_le (M3.filled_mem hx)) hw
  have htf : txtN (M3.filled (L.map NV.x)) ≤ 1073741824 := Nat.le_trans (txtN_filled _) ht
  have hlf : (M3.filled (L.map NV.x)).length ≤ 1000000 := by
    have h1 : (M3.filled (L.map NV.x)).length ≤ (L.map NV.x).length := List.length_filter_le _ _
    omega
  go_enter Try.func27, Try.ntmps27
  go_wp2_with (fail)
  refine (hF.out w hS hrow).mono ?_
  rintro e w1 ⟨v1, rfl, hown1, hb1⟩
  have hz1 := hb1.size
  have hrep1 : RepN (fun b => b < w1.heap.size) w1 v1 (M3.filled (L.map NV.x)) := by
    rw [← filledV_map]
    refine ⟨cellsV (filledV L), by rw [List.length_map]; exact Row.own hown1 (fun g hg => (hown1.lt g hg).2), ?_⟩
    refine RepC.of_nv (fun b hb => ?_)
    exact ((hL b (List.mem_filter.1 hb).1).below hS hb1).mono (fun c hc => by have := hS c hc; omega)
  generalize M3.filled (L.map NV.x) = R0 at *
  replace hwf := Lib.hid hwf
  clear hF hown1 hL hrc
  obtain ⟨a1, c1, rfl⟩ := hrep1.slice
  go_wp2_with (fail)
  go_loopw [0, 3, 4, 5] (fun u0 u3 _ _ wr => ∃ R A : List Nd, RepN (fun b => b < w1.heap.size) wr u0 R ∧ Hid (∃ j, R = R0.drop j) ∧ Hid (M3.front R0 = A ++ M3.front R) ∧ Fresh wr w1.heap.size u3 A ∧ Below w1.heap.size w1 wr) (fun u0 _ _ _ _ => slN u0)
  case atStart => exact ⟨R0, [], hrep1, Lib.hid ⟨0, rfl⟩, rfl, Fresh.nil _ _, Below.refl _ _⟩
  case round =>
    obtain ⟨R, A, hR, hsuf, hfr, hfa, hb⟩ := hrel
    obtain ⟨a0, k0, rfl⟩ := hR.slice
    obtain ⟨_, hlc, hcm⟩ := hR.len
    have hz := hb.size
    cases R with
    | nil =>
      have hfin : Hid (M3.merge (L.map NV.x) = A) := by show _ = _; rw [hmf.out, hfr.out, M3.front_nil, List.append_nil]
      clear hfr hmf
      replace hfa := Lib.hid hfa
      go_wp2_with (fail)
      go_ret
      exact ⟨u3, rfl, by rw [hfin.out]; exact Fresh.base hfa.out hz1, hb1.trans (hb.mono hz1)⟩
    | cons x r =>
      have hlA : A.length ≤ 1000000 := by
        have h1 := front_le R0 _ (Nat.le_refl _)
        rw [hfr.out, List.length_append] at h1
        omega
      have hRl : (x :: r).length ≤ 1000000 := by
        obtain ⟨j, hj⟩ := hsuf.out
        rw [hj]; simp; omega
      have hxm : x ∈ R0 := by
        obtain ⟨j, hj⟩ := hsuf.out
        exact List.mem_of_mem_drop (by rw [← hj]; simp)
      have htR : txtN (x :: r) ≤ 1073741824 := by
        obtain ⟨j, hj⟩ := hsuf.out
        have : txtN R0 = txtN (R0.take j) + txtN (R0.drop j) := by rw [← txtN_append, List.take_append_drop]
        rw [hj]; omega
      obtain ⟨b, off, va, vk, rfl, hSb, d0, d1, d2, d3, d4, hrv⟩ := hR.at_ 0 (by simp)
      simp only [List.getElem_cons_zero, Nat.zero_mul, Nat.add_zero] at d0 d1 d2 d3 d4 hrv
      obtain ⟨a3, c3, rfl⟩ := hrv.at_.slice
      obtain ⟨a4, c4, rfl⟩ := hrv.kids.slice
      have hcl := Lib.hid (domCloneN _ x _ _ wr (fun b h => by omega) hrv (hwf.out x hxm))
      have hl1 : (0 : Int) < ((x :: r).length : Int) := by simp
      clear hrv hxm
      obtain ⟨zs, F, hownA, hocA, hspA⟩ := hfa
      replace hownA := Lib.hid hownA
      replace hocA := Lib.hid hocA
      replace hspA := Lib.hid hspA
      replace hR := Lib.hid hR
      generalize hRg : (x :: r).length = rl at *
      replace hRg := Lib.hid hRg
      go_wp2_with (fail)
      refine hcl.out.mono ?_
      rintro e w2 ⟨va2, vk2, zs2, F2, rfl, oa, ok, hoc2, hsp2, hb2⟩
      clear hcl
      obtain ⟨a5, c5, rfl⟩ := own_slice oa
      obtain ⟨a6, c6, rfl⟩ := own_slice ok
      have hz2 := hb2.size
      replace oa := Lib.hid oa
      replace ok := Lib.hid ok
      replace hoc2 := Lib.hid hoc2
      replace hsp2 := Lib.hid hsp2
      obtain ⟨j0, hj0, hj00, hj01, hj02⟩ := info_parts infoN
      have hbw2 : Below w1.heap.size w1 w2 := hb.trans (hb2.mono hz)
      have hownA2 := own_below hownA.out hb2
      have hocA2 := OwnC.keep (w' := w2) _ _ _ (fun b h => hb2.block b (hspA.out.2 b (by simp [h])).2) hocA.out
      replace hownA2 := Lib.hid hownA2
      replace hocA2 := Lib.hid hocA2
      have hRw2 := Lib.hid (RepN.below hR.out (fun b h => Nat.lt_of_lt_of_le h hz) hb2)
      clear d0 d1 d2 d3 d4
      have hQ1 : (1 : Int) ≤ (rl : Int) := by omega
      have hQ2 : (rl : Int) ≤ (k0 : Int) := by omega
      have hbx0 := Box.new w2 28 (x.cells (.slice a5 x.attrs.length c5) (.slice a6 x.kids.length c6))
      cases htx : (x.kind == 2)
      · have hft : M3.isText x = false := htx
        have hfr2 : Hid (M3.front R0 = (A ++ [x]) ++ M3.front r) := by show _ = _; rw [hfr.out, M3.front_no r hft]; simp
        have hsz3 : (w2.alloc (.cells (x.cells (.slice a5 x.attrs.length c5) (.slice a6 x.kids.length c6)).toArray 28)).heap.size = w2.heap.size + 1 := by simp
        have hb3 := hbw2.alloc (by omega) (.cells (x.cells (.slice a5 x.attrs.length c5) (.slice a6 x.kids.length c6)).toArray 28)
        go_wp2_with (fail)
        obtain ⟨W3, hW3⟩ : ∃ W3, w2.alloc (.cells (x.cells (.slice a5 x.attrs.length c5) (.slice a6 x.kids.length c6)).toArray 28) = W3 := ⟨_, rfl⟩
        change Box (w2.alloc (.cells (x.cells (.slice a5 x.attrs.length c5) (.slice a6 x.kids.length c6)).toArray 28)) _ _ _ at hbx0
        have hbx3 : Below w2.heap.size w2 (w2.alloc (.cells (x.cells (.slice a5 x.attrs.length c5) (.slice a6 x.kids.length c6)).toArray 28)) := (Below.refl _ _).alloc (Nat.le_refl _) _
        rw [hW3] at hbx0 hb3 hsz3 hbx3 ⊢
        clear hW3
        have p0 := hbx0.cell (i := 0) rfl
        have p1 := hbx0.cell (i := 1) rfl
        have p2 := hbx0.cell (i := 2) rfl
        have p3 := hbx0.cell (i := 3) rfl
        have p4 := hbx0.cell (i := 4) rfl
        have hownA3 := own_below hownA2.out hbx3
        have hub : u3.ownBlock ≠ some w2.heap.size := fun e => by have := (hownA2.out.lt _ e).2; omega
        have hz3 := hbx3.size
        have hws : w1.heap.size ≤ W3.heap.size := by omega
        replace hsz3 := Lib.hid hsz3
        go_region_held3 (fun w' => w'.cell? ⟨w2.heap.size, 0, none⟩ = some (.int .i64 x.kind) ∧ w'.cell? ⟨w2.heap.size, 1, none⟩ = some (.string x.name) ∧ w'.cell? ⟨w2.heap.size, 2, none⟩ = some (.slice a5 x.attrs.length c5) ∧ w'.cell? ⟨w2.heap.size, 3, none⟩ = some (.string x.text) ∧ w'.cell? ⟨w2.heap.size, 4, none⟩ = some (.slice a6 x.kids.length c6))
          (first
            | go_keep
            | assumption
            | (go_split_ands
               refine ⟨?_, ?_, ?_, ?_, ?_⟩
               · (rw [hgrow.cell_far _ (by simp; have := hsz3.out; omega) (Ne.symm hub)]; assumption)
               · (rw [hgrow.cell_far _ (by simp; have := hsz3.out; omega) (Ne.symm hub)]; assumption)
               · (rw [hgrow.cell_far _ (by simp; have := hsz3.out; omega) (Ne.symm hub)]; assumption)
               · (rw [hgrow.cell_far _ (by simp; have := hsz3.out; omega) (Ne.symm hub)]; assumption)
               · (rw [hgrow.cell_far _ (by simp; have := hsz3.out; omega) (Ne.symm hub)]; assumption)))
          ((refine step_append_lies _ (by rfl) _ _ _ (by rfl) w1.heap.size 28 j0 _ 5 88 Try.underlying22 hj0 hj00 hj01 hj02 rfl (by omega) u3 A.length zs (by rfl) ((hownA3.alloc _).drew) ⟨W3.heap.size, 0, none⟩ 1 1 [.int .i64 x.kind, .string x.name, .slice a5 x.attrs.length c5, .string x.text, .slice a6 x.kids.length c6] (by rfl) (by rfl) (World.news_of_block (cs := #[.int .i64 x.kind, .string x.name, .slice a5 x.attrs.length c5, .string x.text, .slice a6 x.kids.length c6]) (t := 28) (fr := (0, 0)) (heap_alloc_new W3 _)) (five_one _ _ _ _ _ _ _ _ _) (by omega) (by unfold maxLen; omega) (by omega) (by simp; omega) (W3.heap.size + 1) (by simp) ?_; intro gg cap w5 hown5 hgrow hat hlt))
        go_wp2_with (fail)
        have hWW : Below w2.heap.size w2 (W3.alloc (.cells #[.int .i64 x.kind, .string x.name, .slice a5 x.attrs.length c5, .string x.text, .slice a6 x.kids.length c6] 28)).drew := (hbx3.alloc hz3 _).drew
        have hzW : (W3.alloc (.cells #[.int .i64 x.kind, .string x.name, .slice a5 x.attrs.length c5, .string x.text, .slice a6 x.kids.length c6] 28)).drew.heap.size = w2.heap.size + 2 := by simp; have := hsz3.out; omega
        have hfa5 : Fresh w5 w1.heap.size (.slice (some ⟨gg, 0, none⟩) (A.length + 1) cap) (A ++ [x]) := by
          refine Fresh.snoc (W := (W3.alloc (.cells #[.int .i64 x.kind, .string x.name, .slice a5 x.attrs.length c5, .string x.text, .slice a6 x.kids.length c6] 28)).drew) (mid := wr.heap.size) (zs2 := zs2) (F2 := F2) rfl hown5 hgrow ?_ (OwnC.keep _ _ _ (fun b h => hWW.block b (by have := (hspA.out.2 b (by simp [h])).2; omega)) hocA2.out) hspA.out ?_ ?_ (OwnC.keep _ _ _ (fun b h => hWW.block b (hsp2.out.2 b (by simp [h])).2) hoc2.out) (hsp2.out.mono (Nat.le_refl _) (by omega)) hz (by omega)
          · rcases hat with h | h
            · exact Or.inl h
            · exact Or.inr (by rw [h]; simp)
          · exact own_base (own_below oa.out hWW) (fun _ _ => Nat.zero_le _)
          · exact own_base (own_below ok.out hWW) (fun _ _ => Nat.zero_le _)
        have hb5 : Below w1.heap.size w1 w5 := ((hb3.alloc hws _).drew).grown hgrow (by simp; omega) (fun g hg => (hownA.out.lt g hg).1)
        have hw25 : Below w1.heap.size w2 w5 := (((Below.refl w1.heap.size w2).trans (hbx3.mono (by omega))).alloc hws _).drew.grown hgrow (by simp; omega) (fun g hg => (hownA.out.lt g hg).1)
        have hR5 := (hRw2.out.below (fun b h => h) hw25).rest 1 (by simp)
        clear hown5 hgrow hat hlt
        replace hfa5 := Lib.hid hfa5
        replace hR5 := Lib.hid hR5
        go_roundw
        case rel =>
          refine ⟨r, A ++ [x], hR5.out, ?_, hfr2, hfa5.out, hb5⟩
          obtain ⟨j, hj⟩ := hsuf.out
          refine Lib.hid ⟨j + 1, ?_⟩
          rw [← List.drop_drop, ← hj]; rfl
        case measure => show rl - 1 < rl; omega
      · have hft : M3.isText x = true := htx
        have hfr2 : Hid (M3.front R0 = (A ++ [M3.withText x (M3.joinT (x :: r))]) ++ M3.front ((x :: r).drop (M3.runT (x :: r)))) := by show _ = _; rw [hfr.out, M3.front_yes r hft]; simp
        have hq1 : 1 ≤ M3.runT (x :: r) := by rw [M3.runT_yes r hft]; omega
        have hq2 : M3.runT (x :: r) ≤ rl := by have := M3.runT_le (x :: r); have := hRg.out; omega
        have hsz3 : (w2.alloc (.cells (x.cells (.slice a5 x.attrs.length c5) (.slice a6 x.kids.length c6)).toArray 28)).heap.size = w2.heap.size + 1 := by simp
        have hb3 := hbw2.alloc (by omega) (.cells (x.cells (.slice a5 x.attrs.length c5) (.slice a6 x.kids.length c6)).toArray 28)
        have hbx3 : Below w2.heap.size w2 (w2.alloc (.cells (x.cells (.slice a5 x.attrs.length c5) (.slice a6 x.kids.length c6)).toArray 28)) := (Below.refl _ _).alloc (Nat.le_refl _) _
        have hJ := Lib.hid (fun h1 h2 => domJoined (fun b => b < w1.heap.size) (.slice (some ⟨b, off, none⟩) rl k0) (x :: r) (w2.alloc (.cells (x.cells (.slice a5 x.attrs.length c5) (.slice a6 x.kids.length c6)).toArray 28)) h1 h2 (by have := hRg.out; omega) htR)
        have hRw3 := RepN.below hRw2.out (fun b h => by omega) hbx3
        go_wp2_with (fail)
        refine (hJ.out (fun b h => by omega) hRw3).mono ?_
        rintro e w4 ⟨rfl, hb4⟩
        have hbx4 := (show Box (w2.alloc (.cells (x.cells (.slice a5 x.attrs.length c5) (.slice a6 x.kids.length c6)).toArray 28)) _ _ _ from hbx0).below hb4 (by omega)
        have s3 := hbx4.cell (i := 3) rfl
        have f3 := hbx4.free 3
        have hb24 : Below w2.heap.size w2 w4 := hbx3.trans (hb4.mono (by omega))
        have hz4 := hb4.size
        go_wp2_with (fail)
        have hbx5 := hbx4.set 3 (.string (M3.joinT (x :: r)))
        have hbx6 : Below w2.heap.size w2 (w4.setCell ⟨w2.heap.size, 3, none⟩ (.string (M3.joinT (x :: r)))) := hb24.setCell (p := ⟨w2.heap.size, 3, none⟩) (Nat.le_refl _) _
        have hsz6 : (w4.setCell ⟨w2.heap.size, 3, none⟩ (.string (M3.joinT (x :: r)))).heap.size = w4.heap.size := by simp [World.setCell]
        have hb6 : Below w1.heap.size w1 (w4.setCell ⟨w2.heap.size, 3, none⟩ (.string (M3.joinT (x :: r)))) := hbw2.trans (hbx6.mono (by omega))
        clear hbx4 s3 f3 hbx3 hb3
        obtain ⟨W3, hW3⟩ : ∃ W3, w4.setCell ⟨w2.heap.size, 3, none⟩ (.string (M3.joinT (x :: r))) = W3 := ⟨_, rfl⟩
        rw [hW3] at hbx5 hb6 hsz6 hbx6 ⊢
        clear hW3
        have hbx3 := hbx6
        have hb3 := hb6
        have hsz3 : w2.heap.size + 1 ≤ W3.heap.size := by omega
        clear hbx6 hb6 hsz6
        simp only [List.set_cons_succ, List.set_cons_zero] at hbx5
        have p0 := hbx5.cell (i := 0) rfl
        have p1 := hbx5.cell (i := 1) rfl
        have p2 := hbx5.cell (i := 2) rfl
        have p3 := hbx5.cell (i := 3) rfl
        have p4 := hbx5.cell (i := 4) rfl
        have hownA3 := own_below hownA2.out hbx3
        have hub : u3.ownBlock ≠ some w2.heap.size := fun e => by have := (hownA2.out.lt _ e).2; omega
        have hz3 := hbx3.size
        have hws : w1.heap.size ≤ W3.heap.size := by omega
        replace hsz3 := Lib.hid hsz3
        go_region_held3 (fun w' => w'.cell? ⟨w2.heap.size, 0, none⟩ = some (.int .i64 x.kind) ∧ w'.cell? ⟨w2.heap.size, 1, none⟩ = some (.string x.name) ∧ w'.cell? ⟨w2.heap.size, 2, none⟩ = some (.slice a5 x.attrs.length c5) ∧ w'.cell? ⟨w2.heap.size, 3, none⟩ = some (.string (M3.joinT (x :: r))) ∧ w'.cell? ⟨w2.heap.size, 4, none⟩ = some (.slice a6 x.kids.length c6))
          (first
            | go_keep
            | assumption
            | (go_split_ands
               refine ⟨?_, ?_, ?_, ?_, ?_⟩
               · (rw [hgrow.cell_far _ (by simp; have := hsz3.out; omega) (Ne.symm hub)]; assumption)
               · (rw [hgrow.cell_far _ (by simp; have := hsz3.out; omega) (Ne.symm hub)]; assumption)
               · (rw [hgrow.cell_far _ (by simp; have := hsz3.out; omega) (Ne.symm hub)]; assumption)
               · (rw [hgrow.cell_far _ (by simp; have := hsz3.out; omega) (Ne.symm hub)]; assumption)
               · (rw [hgrow.cell_far _ (by simp; have := hsz3.out; omega) (Ne.symm hub)]; assumption)))
          ((refine step_append_lies _ (by rfl) _ _ _ (by rfl) w1.heap.size 28 j0 _ 5 88 Try.underlying22 hj0 hj00 hj01 hj02 rfl (by omega) u3 A.length zs (by rfl) ((hownA3.alloc _).drew) ⟨W3.heap.size, 0, none⟩ 1 1 [.int .i64 x.kind, .string x.name, .slice a5 x.attrs.length c5, .string (M3.joinT (x :: r)), .slice a6 x.kids.length c6] (by rfl) (by rfl) (World.news_of_block (cs := #[.int .i64 x.kind, .string x.name, .slice a5 x.attrs.length c5, .string (M3.joinT (x :: r)), .slice a6 x.kids.length c6]) (t := 28) (fr := (0, 0)) (heap_alloc_new W3 _)) (five_one _ _ _ _ _ _ _ _ _) (by omega) (by unfold maxLen; omega) (by omega) (by simp; omega) (W3.heap.size + 1) (by simp) ?_; intro gg cap w5 hown5 hgrow hat hlt))
        go_wp2_with (fail)
        have hWW : Below w2.heap.size w2 (W3.alloc (.cells #[.int .i64 x.kind, .string x.name, .slice a5 x.attrs.length c5, .string (M3.joinT (x :: r)), .slice a6 x.kids.length c6] 28)).drew := (hbx3.alloc hz3 _).drew
        have hzW : (W3.alloc (.cells #[.int .i64 x.kind, .string x.name, .slice a5 x.attrs.length c5, .string (M3.joinT (x :: r)), .slice a6 x.kids.length c6] 28)).drew.heap.size = W3.heap.size + 1 := by simp
        have hfa5 : Fresh w5 w1.heap.size (.slice (some ⟨gg, 0, none⟩) (A.length + 1) cap) (A ++ [M3.withText x (M3.joinT (x :: r))]) := by
          refine Fresh.snoc (W := (W3.alloc (.cells #[.int .i64 x.kind, .string x.name, .slice a5 x.attrs.length c5, .string (M3.joinT (x :: r)), .slice a6 x.kids.length c6] 28)).drew) (mid := wr.heap.size) (zs2 := zs2) (F2 := F2) rfl hown5 hgrow ?_ (OwnC.keep _ _ _ (fun b h => hWW.block b (by have := (hspA.out.2 b (by simp [h])).2; omega)) hocA2.out) hspA.out ?_ ?_ (OwnC.keep _ _ _ (fun b h => hWW.block b (hsp2.out.2 b (by simp [h])).2) hoc2.out) (hsp2.out.mono (Nat.le_refl _) (by omega)) hz (by omega)
          · rcases hat with h | h
            · exact Or.inl h
            · exact Or.inr (by rw [h]; simp)
          · exact own_base (own_below oa.out hWW) (fun _ _ => Nat.zero_le _)
          · exact own_base (own_below ok.out hWW) (fun _ _ => Nat.zero_le _)
        have hb5 : Below w1.heap.size w1 w5 := ((hb3.alloc hws _).drew).grown hgrow (by simp; omega) (fun g hg => (hownA.out.lt g hg).1)
        have hw25 : Below w1.heap.size w2 w5 := (((Below.refl w1.heap.size w2).trans (hbx3.mono (by omega))).alloc hws _).drew.grown hgrow (by simp; omega) (fun g hg => (hownA.out.lt g hg).1)
        have hR5 := (hRw2.out.below (fun b h => h) hw25).rest (M3.runT (x :: r)) (M3.runT_le _)
        clear hown5 hgrow hat hlt
        replace hfa5 := Lib.hid hfa5
        replace hR5 := Lib.hid hR5
        go_roundw
        case rel =>
          refine ⟨(x :: r).drop (M3.runT (x :: r)), A ++ [M3.withText x (M3.joinT (x :: r))], hR5.out, ?_, hfr2, hfa5.out, hb5⟩
          obtain ⟨j, hj⟩ := hsuf.out
          refine Lib.hid ⟨j + M3.runT (x :: r), ?_⟩
          rw [← List.drop_drop, ← hj]
        case measure => show rl - M3.runT (x :: r) < rl; omega
end Go.Proofs.Ytjelmpajphajfaa
