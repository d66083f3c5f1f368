/- Layer 3: values of attributes. -/
import Derived.Test.YtgplpmefnlgpfaaOpen3
import Derived.Test.YtgplpmefnlgpfaaClone3
namespace Go.Proofs.Ytgplpmefnlgpfaa
open Go.RowKit

set_option maxHeartbeats 1000000 in
set_option maxRecDepth 100000 in
theorem ref03Value (S : Nat → Prop) (x : Nd) (va vk : Value) (name : ByteArray) (w : World) (hS : ∀ b, S b → b < w.heap.size) (hat : Row S w 2 va x.attrs.length (cellsA x.attrs)) (hvk : ∃ a n c, vk = .slice a n c) :
    Calls Try.prog 35 #[x.val va vk, .string name] w fun e w' => e = .returned (valAns (M3.valueOf name x.attrs)) ∧ Below w.heap.size w w' := by
  obtain ⟨a, cap, rfl⟩ := hat.slice
  obtain ⟨_, hlc, hcm⟩ := hat.len
  obtain ⟨a2, n2, cap2, rfl⟩ := hvk
  cases x with | mk k n ats t ks =>
  simp only [Nd.attrs] at hat hlc hcm ⊢
  simp only [Nd.val, Nd.kind, Nd.name, Nd.text]
  have bx := Box.new w 30 [.int .i64 k, .string n, .slice a ats.length cap, .string t, .slice a2 n2 cap2]
  have hb := (Below.refl w.heap.size w).alloc (Nat.le_refl _) (.cells #[.int .i64 k, .string n, .slice a ats.length cap, .string t, .slice a2 n2 cap2] 30)
  have hat1 := hat.below hS hb
  have c2 := bx.cell (i := 2) rfl
  have hz : w.heap.size < (w.alloc (.cells #[.int .i64 k, .string n, .slice a ats.length cap, .string t, .slice a2 n2 cap2] 30)).heap.size := by simp
  go_enter Try.func35, Try.ntmps35
  change Box (w.alloc (.cells #[.int .i64 k, .string n, .slice a ats.length cap, .string t, .slice a2 n2 cap2] 30)) _ _ _ at bx
  change (w.alloc (.cells #[.int .i64 k, .string n, .slice a ats.length cap, .string t, .slice a2 n2 cap2] 30)).cell? _ = _ at c2
  go_wp2
  obtain ⟨W, hW⟩ : ∃ W, w.alloc (.cells #[.int .i64 k, .string n, .slice a ats.length cap, .string t, .slice a2 n2 cap2] 30) = W := ⟨_, rfl⟩
  rw [hW] at c2 hb hat1 hz ⊢
  clear hW bx hat
  go_loop [6] (fun u6 => ∃ i : Nat, i ≤ ats.length ∧ u6 = .int .i64 (i : Int) ∧ Hid (M3.valueOf name ats = M3.valueOf name (ats.drop i))) (fun u6 => ats.length - (intOf u6).toNat)
  case atStart => exact ⟨0, by omega, rfl, rfl⟩
  case round =>
    obtain ⟨i, hi, rfl, hv⟩ := hrel
    by_cases hlt : i < ats.length
    · obtain ⟨b, off, rfl, hSb, c0, c1⟩ := hat1.atA i hlt
      have hvd := M3.valueOf_drop name ats i hlt
      generalize ats[i].name = nm at *
      generalize ats[i].value = vl at *
      have hq : Hid (M3.eqB nm name = (nm.toList == name.toList)) := rfl
      cases he : (nm.toList == name.toList)
      · rw [hq.out, he] at hvd
        replace hvd := Lib.hid (hv.out.trans hvd)
        clear hv hq
        go_wp2
        go_round
        case rel => exact ⟨i + 1, by omega, by go_num, hvd.out⟩
        case measure => simp [intOf]; omega
      · rw [hq.out, he] at hvd
        replace hvd := Lib.hid (hv.out.trans hvd)
        clear hv hq
        go_wp2
        go_ret2
        exact ⟨by rw [hvd.out]; rfl, hb⟩
    · have hvd : Hid (M3.valueOf name ats = none) := by show _ = _; rw [hv.out, List.drop_of_length_le (by omega)]; rfl
      go_wp2
      go_ret2
      exact ⟨by rw [hvd.out]; rfl, hb⟩

theorem infoS : (Try.prog.info? 9).map (fun i => (i.zero, i.size, i.bytes)) = some (some (.string ⟨#[]⟩), 1, 16) := by kernel_rfl
theorem valAns_mk (o : Option ByteArray) : ∃ s b, valAns o = .tuple #[.string s, .bool b] := ⟨_, _, rfl⟩
theorem cut_attrs (x : Nd) : (fewN [x]) = [.mk x.kind (M3.few x.name) ((x.attrs.take 5).map M3.fewA) (M3.few x.text) (M3.cut x.kids 39).1] := by
  unfold fewN
  rw [show (40 : Nat) = 39 + 1 from rfl, M3.cut_cons, M3.cut_nil]
abbrev strs (l : List ByteArray) : List Value := l.map Value.string

set_option maxHeartbeats 4000000 in
set_option maxRecDepth 100000 in
theorem law03DomValues (x : Nd) (va vk : Value) (name : ByteArray) (w : World) (hx : RepV (fun b => b < w.heap.size) w x va vk) (hs1 : Sz1 x) (hs2 : SzN x.kids) :
    Calls Try.prog 7 #[x.val va vk, .string name] w fun e w' => e = .returned (.bool true) ∧ Below w.heap.size w w' := by
  obtain ⟨hat, hkd⟩ := hx
  obtain ⟨a1, cap1, rfl⟩ := hat.slice
  obtain ⟨a2, cap2, rfl⟩ := hkd.slice
  have hb0 : Below w.heap.size w ((w.alloc (.cells (x.cells (.slice a1 x.attrs.length cap1) (.slice a2 x.kids.length cap2)).toArray 30)).alloc (.cells (x.cells (.slice a1 x.attrs.length cap1) (.slice a2 x.kids.length cap2)).toArray 30)) := ((Below.refl _ _).alloc (Nat.le_refl _) _).alloc (by simp) _
  have bx := Box.new (w.alloc (.cells (x.cells (.slice a1 x.attrs.length cap1) (.slice a2 x.kids.length cap2)).toArray 30)) 30 (x.cells (.slice a1 x.attrs.length cap1) (.slice a2 x.kids.length cap2))
  simp only [World.size_alloc] at bx
  have hrl : RepN (fun b => b < w.heap.size + 2) ((w.alloc (.cells (x.cells (.slice a1 x.attrs.length cap1) (.slice a2 x.kids.length cap2)).toArray 30)).alloc (.cells (x.cells (.slice a1 x.attrs.length cap1) (.slice a2 x.kids.length cap2)).toArray 30)) (.slice (some ⟨w.heap.size + 1, 0, none⟩) 1 1) [x] :=
    ⟨_, Row.fresh bx (by omega) rfl (by omega), RepC.single ((RepV.below (w := w) (B := w.heap.size) ⟨hat, hkd⟩ (fun b h => h) hb0).mono (fun b h => by omega))⟩
  have hF := ref03Few _ _ [x] _ (fun b h => by simp; omega) hrl (szN_cons.2 ⟨hs1, hs2, by rw [SzN]; trivial⟩)
  rw [cut_attrs] at hF
  have hal : ((x.attrs.take 5).map M3.fewA).length ≤ 5 := by simp; omega
  generalize hy : Nd.mk x.kind (M3.few x.name) ((x.attrs.take 5).map M3.fewA) (M3.few x.text) (M3.cut x.kids 39).1 = y at *
  have hal2 : y.attrs.length ≤ 5 := by rw [← hy]; exact hal
  clear hy hal bx hrl
  replace hF := Lib.hid hF
  go_enter Try.func7, Try.ntmps7
  go_wp2_with (fail)
  refine hF.out.mono ?_
  rintro e w1 ⟨v1, rfl, ⟨zs, hown, hrep⟩, hb1⟩
  rw [show [y].length = 1 from rfl] at hown
  have hbw1 : Below w.heap.size w w1 := hb0.trans (hb1.mono (by simp; omega))
  have hz1 := hbw1.size
  clear hb0 hF hb1
  obtain ⟨g, cap, rfl, hg1, hg2⟩ := hown.form (by simp)
  obtain ⟨va3, vk3, q0, q1, q2, q3, q4, hrv⟩ := hrep.at_ 0 (by simp)
  simp only [List.getElem_cons_zero] at q0 q1 q2 q3 q4 hrv
  obtain ⟨hat3, hkd3⟩ := hrv
  obtain ⟨a3, cap3, rfl⟩ := hat3.slice
  obtain ⟨a4, cap4, rfl⟩ := hkd3.slice
  have c0 := (own_cell hown _ _ q0).1
  have c1 := (own_cell hown _ _ q1).1
  have c2 := (own_cell hown _ _ q2).1
  have c3 := (own_cell hown _ _ q3).1
  have c4 := (own_cell hown _ _ q4).1
  simp only [Nat.zero_mul, Nat.zero_add] at c0 c1 c2 c3 c4
  clear hown hrep q0 q1 q2 q3 q4
  obtain ⟨_, hl3, hm3⟩ := hat3.len
  have hSg : ∀ b, (w.heap.size ≤ b - 0 ∨ True) → True := fun _ _ => trivial
  go_wp2_with (fail)
  have hown0 : (w1.alloc (.cells #[.string name] 9)).ownsRow w1.heap.size 9 1 (.slice (some ⟨w1.heap.size, 0, none⟩) 1 1) 1 (strs [name]) :=
    ⟨rfl, .inr ⟨w1.heap.size, 1, #[.string name], rfl, Nat.le_refl _, heap_alloc_new w1 _, Nat.le_refl _, by unfold maxLen; omega, rfl, rfl⟩⟩
  have hb1 : Below w1.heap.size w1 (w1.alloc (.cells #[.string name] 9)) := (Below.refl _ _).alloc (Nat.le_refl _) _
  obtain ⟨W1, hW1⟩ : ∃ W1, w1.alloc (.cells #[.string name] 9) = W1 := ⟨_, rfl⟩
  rw [hW1] at hown0 hb1 ⊢
  clear hW1
  obtain ⟨i0, hi0, hz00, hz01, hz02⟩ := info_parts infoS
  go_loopw [6, 7] (fun u6 u7 wr => ∃ k : Nat, k ≤ y.attrs.length ∧ u7 = .int .i64 (k : Int) ∧ wr.ownsRow w1.heap.size 9 1 u6 (k + 1) (strs (name :: (y.attrs.take k).map Att.name)) ∧ Below w1.heap.size w1 wr) (fun _ u7 _ => y.attrs.length - (intOf u7).toNat)
  case atStart => exact ⟨0, by omega, rfl, hown0, hb1⟩
  case round =>
    clear hown0 hb1
    obtain ⟨k, hk, rfl, hown2, hb2⟩ := hrel
    have hz2 := hb2.size
    have d2 := (hb2.cell (p := ⟨g, 2, none⟩) hg2).trans c2
    by_cases hlt : k < y.attrs.length
    · obtain ⟨b, off, rfl, hSb, e0, e1⟩ := (hat3.keep (w' := wr) (fun b h => hb2.block b h.2.1)).atA k hlt
      have htk : strs (name :: (y.attrs.take (k + 1)).map Att.name) = strs (name :: (y.attrs.take k).map Att.name) ++ [.string y.attrs[k].name] := by
        rw [List.take_succ_eq_append_getElem hlt, List.map_append]; simp [strs]
      generalize y.attrs[k].name = nm at *
      replace htk := Lib.hid htk
      have hne : u6.ownBlock ≠ some g := fun e => by have := (hown2.lt _ e).1; omega
      go_wp2_with (at_builtin; refine wpList_append_lies _ rfl _ _ 37 rfl w1.heap.size 9 i0 _ 1 16 Try.underlying37 hi0 hz00 hz01 hz02 rfl (by omega) u6 (k + 1) _ rfl (hown2.alloc _) ⟨wr.heap.size, 0, none⟩ 1 1 [.string nm] rfl rfl (World.news_of_block (cs := #[.string nm]) (t := 9) (fr := (0, 0)) (heap_alloc_new wr _)) (by simp [Value.oneCell']) (by omega) (by unfold maxLen; omega) (by omega) (by simp; omega) _ rfl ?_; intro gg cap' w5 hown5 hgrow hat5 hlt5)
      have hb5 : Below w1.heap.size w1 w5 := (hb2.alloc hz2 (.cells #[.string nm] 9)).grown hgrow (by simp; omega) (fun g hg => (hown2.lt g hg).1)
      have hown6 : w5.ownsRow w1.heap.size 9 1 (.slice (some ⟨gg, 0, none⟩) (k + 1 + 1) cap') (k + 1 + 1) (strs (name :: (y.attrs.take (k + 1)).map Att.name)) := by rw [htk.out]; exact hown5
      clear hown5 hgrow hat5
      go_roundw
      case rel => exact ⟨k + 1, by omega, by go_num, hown6, hb5⟩
      case measure => simp [intOf]; omega
    · obtain rfl : k = y.attrs.length := by omega
      rw [List.take_length] at hown2
      obtain ⟨g2, cap2', rfl, hg3, hg4⟩ := hown2.form (by omega)
      generalize hnm : name :: y.attrs.map Att.name = nms at *
      have hnl : nms.length = y.attrs.length + 1 := by rw [← hnm]; simp
      clear hnm
      obtain ⟨W2, rfl⟩ : ∃ W2 : World, W2 = wr := ⟨_, rfl⟩
      replace hnl := Lib.hid hnl
      go_wp2_with (fail)
      go_loopw [8] (fun u8 wr => ∃ k : Nat, k ≤ y.attrs.length + 1 ∧ u8 = .int .i64 (k : Int) ∧ Below W2.heap.size W2 wr) (fun u8 _ => y.attrs.length + 1 - (intOf u8).toNat)
      case atStart => exact ⟨0, by omega, rfl, Below.refl _ _⟩
      case round =>
        obtain ⟨k, hk2, rfl, hb3⟩ := hrel
        have hz3 := hb3.size
        by_cases hlt2 : k < y.attrs.length + 1
        · have hkn : k < nms.length := by have := hnl.out; omega
          have hb4 : Below w1.heap.size w1 wr := hb2.trans (hb3.mono hz2)
          have f0 := (hb4.cell (p := ⟨g, 0, none⟩) hg2).trans c0
          have f1 := (hb4.cell (p := ⟨g, 1, none⟩) hg2).trans c1
          have f2 := (hb4.cell (p := ⟨g, 2, none⟩) hg2).trans c2
          have f3 := (hb4.cell (p := ⟨g, 3, none⟩) hg2).trans c3
          have f4 := (hb4.cell (p := ⟨g, 4, none⟩) hg2).trans c4
          have fk := (hb3.cell (p := ⟨g2, k, none⟩) hg4).trans (own_cell hown2 k (.string nms[k]) (by simp [strs, hkn])).1
          have hat4 := fun W (hW : Below wr.heap.size wr W) => hat3.keep (w' := W) (fun b h => ((hW.block b (by have := h.2.1; have := hb4.size; omega)).trans (hb4.block b h.2.1)))
          have hsl : ∀ W, Below wr.heap.size wr W → ∀ b, (w1.heap.size ≤ b ∨ True) → b < w1.heap.size → b < W.heap.size := fun W hW b _ h => by have := hW.size; have := hb4.size; omega
          generalize nms[k] = nm at *
          clear c0 c1 c2 c3 c4 d2 hsl
          have hsz4 := hb4.size
          have hD := Lib.hid (fun W hW => domValue _ y (.slice a3 y.attrs.length cap3) (.slice a4 y.kids.length cap4) nm W (fun b h => by have := h.2.1; have := hW.size; omega) (hat4 W hW))
          have hR := Lib.hid (fun W hW => ref03Value _ y (.slice a3 y.attrs.length cap3) (.slice a4 y.kids.length cap4) nm W (fun b h => by have := h.2.1; have := hW.size; omega) (hat4 W hW) ⟨_, _, _, rfl⟩)
          obtain ⟨sv, bv, hsv⟩ := valAns_mk (M3.valueOf nm y.attrs)
          rw [hsv] at hD hR
          clear hsv hat4
          go_wp2_with (fail)
          go_region_held3 (fun w' => w'.cell? ⟨g, 0, none⟩ = some (.int .i64 y.kind) ∧ w'.cell? ⟨g, 1, none⟩ = some (.string y.name) ∧ w'.cell? ⟨g, 2, none⟩ = some (.slice a3 y.attrs.length cap3) ∧ w'.cell? ⟨g, 3, none⟩ = some (.string y.text) ∧ w'.cell? ⟨g, 4, none⟩ = some (.slice a4 y.kids.length cap4) ∧ w'.cell? ⟨g2, k, none⟩ = some (.string nm))
            (first
              | go_keep
              | (refine ⟨?_, ?_, ?_, ?_, ?_, ?_⟩ <;> (rw [hb5.cell (by simp; omega)]; assumption)))
            (first
              | (go_at_call 34; refine (hD.out _ ((Below.refl _ wr).drew)).mono ?_; rintro e w5 ⟨rfl, hb5⟩))
          rename_i hH
          obtain ⟨g0, g1, g2', g3', g4', gk⟩ := hH
          have hb6 : Below wr.heap.size wr w5 := ((Below.refl _ wr).drew).trans hb5
          clear hb5 f0 f1 f2 f3 f4 fk hD
          go_wp2_with (fail)
          go_region_held3 (fun w' => w'.cell? ⟨g, 0, none⟩ = some (.int .i64 y.kind) ∧ w'.cell? ⟨g, 1, none⟩ = some (.string y.name) ∧ w'.cell? ⟨g, 2, none⟩ = some (.slice a3 y.attrs.length cap3) ∧ w'.cell? ⟨g, 3, none⟩ = some (.string y.text) ∧ w'.cell? ⟨g, 4, none⟩ = some (.slice a4 y.kids.length cap4) ∧ w'.cell? ⟨g2, k, none⟩ = some (.string nm))
            (first
              | go_keep
              | (refine ⟨?_, ?_, ?_, ?_, ?_, ?_⟩ <;> (rw [hb7.cell (by have := hb6.size; simp; omega)]; assumption)))
            (first
              | (go_at_call 35; refine (hR.out _ hb6.drew).mono ?_; rintro e w7 ⟨rfl, hb7⟩))
          have hb8 : Below wr.heap.size wr w7 := hb6.drew.trans (hb7.mono (by have := hb6.size; simp; omega))
          clear hb7 g0 g1 g2' g3' g4' gk hR
          have hds : decide (sv ≠ sv) = false := by simp
          have hdb : decide (bv ≠ bv) = false := by simp
          go_wp2_with (fail)
          exact ⟨⟨k + 1, by omega, by go_num, hb3.trans (hb8.mono hz3)⟩, by simp [intOf]; omega⟩
        · go_wp2_with (fail)
          refine (lives03 _).mono ?_
          rintro e w5 ⟨rfl, hb5⟩
          go_wp2
          go_ret
          exact ⟨rfl, ((hbw1.trans (hb2.mono hz1)).trans (hb3.mono (by omega))).trans (hb5.mono (by omega))⟩
end Go.Proofs.Ytgplpmefnlgpfaa
