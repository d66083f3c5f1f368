/- Texts joined: Clone3, DomM3, Ref03f, DomM4, Same, Same2, Same3, Ref03s, Small3, Law03m, Ref03y, Ref03z, Law03g, Ref03x. -/
import Derived.Deep.RegionHeld3
import Derived.Deep.AppendLies
import Derived.StillTailTactics
import Derived.Test.YtjelmpajphajfaaG1
import Derived.Test.YtjelmpajphajfaaG2
import Derived.Test.YtjelmpajphajfaaG3
/- Package dom: Clone. -/
namespace Go.Proofs.Ytjelmpajphajfaa
open Go.RowKit

/-- Nodes few enough. -/
abbrev Few6 (l : List Nd) : Prop := M3.weight l ≤ 1000000

/-- Five cells laid into a row at element i, and the state of the row while it is filled. -/
theorem set5 (done Z : List Value) (i : Nat) (c0 c1 c2 c3 c4 z0 z1 z2 z3 z4 : Value) (hd : done.length = i * 5) :
    (((((done ++ z0 :: z1 :: z2 :: z3 :: z4 :: Z).set (i * 5) c0).set (i * 5 + 1) c1).set (i * 5 + 2) c2).set (i * 5 + 3) c3).set (i * 5 + 4) c4 = done ++ [c0, c1, c2, c3, c4] ++ Z := by
  rw [← hd]
  simp
theorem own_cell {w : World} {B : Nat} {e : TypeId} {k n g cap : Nat} {xs : List Value} (h : w.ownsRow B e k (.slice (some ⟨g, 0, none⟩) n cap) n xs) (j : Nat) (u : Value) (hu : xs[j]? = some u) : w.cell? ⟨g, j, none⟩ = some u ∧ w.frozen? ⟨g, j, none⟩ = false := by
  refine ⟨by have := h.cells (g := g) rfl j u hu; rwa [add_plain', Nat.zero_add] at this, ?_⟩
  rcases h.2 with ⟨h', _⟩ | ⟨g', cap', cur, h', _, hg, _⟩
  · cases h'
  · cases h'
    simp [World.frozen?, hg]
def put5 (w : World) (g i : Nat) (c0 c1 c2 c3 c4 : Value) : World := ((((w.setCell ⟨g, i * 5, none⟩ c0).setCell ⟨g, i * 5 + 1, none⟩ c1).setCell ⟨g, i * 5 + 2, none⟩ c2).setCell ⟨g, i * 5 + 3, none⟩ c3).setCell ⟨g, i * 5 + 4, none⟩ c4
theorem put5_own {w : World} {B : Nat} {e : TypeId} {n g cap i : Nat} {done Z : List Value} {z0 z1 z2 z3 z4 : Value} (h : w.ownsRow B e 5 (.slice (some ⟨g, 0, none⟩) n cap) n (done ++ z0 :: z1 :: z2 :: z3 :: z4 :: Z)) (hd : done.length = i * 5) (c0 c1 c2 c3 c4 : Value) :
    (put5 w g i c0 c1 c2 c3 c4).ownsRow B e 5 (.slice (some ⟨g, 0, none⟩) n cap) n (done ++ [c0, c1, c2, c3, c4] ++ Z) := by
  have := ((((h.stored (i * 5) c0).1.stored (i * 5 + 1) c1).1.stored (i * 5 + 2) c2).1.stored (i * 5 + 3) c3).1.stored (i * 5 + 4) c4
  rw [set5 _ _ _ _ _ _ _ _ _ _ _ _ _ hd] at this
  exact this.1
theorem put5_far (w : World) (g i : Nat) (c0 c1 c2 c3 c4 : Value) (b : Nat) (h : b ≠ g) : (put5 w g i c0 c1 c2 c3 c4).heap[b]? = w.heap[b]? := by
  unfold put5
  rw [Below.heap_setCell _ _ _ _ (by simpa using h), Below.heap_setCell _ _ _ _ (by simpa using h), Below.heap_setCell _ _ _ _ (by simpa using h), Below.heap_setCell _ _ _ _ (by simpa using h), Below.heap_setCell _ _ _ _ (by simpa using h)]
theorem put5_size (w : World) (g i : Nat) (c0 c1 c2 c3 c4 : Value) : (put5 w g i c0 c1 c2 c3 c4).heap.size = w.heap.size := by simp [put5, World.setCell]
theorem put5_below {B : Nat} {a w : World} (h : Below B a w) (g i : Nat) (c0 c1 c2 c3 c4 : Value) (hg : B ≤ g) : Below B a (put5 w g i c0 c1 c2 c3 c4) :=
  ((((h.setCell (p := ⟨g, i * 5, none⟩) hg c0).setCell (p := ⟨g, i * 5 + 1, none⟩) hg c1).setCell (p := ⟨g, i * 5 + 2, none⟩) hg c2).setCell (p := ⟨g, i * 5 + 3, none⟩) hg c3).setCell (p := ⟨g, i * 5 + 4, none⟩) hg c4
theorem weight_le {x : Nd} {l : List Nd} (h : x ∈ l) : 1 + x.attrs.length + M3.weight x.kids ≤ M3.weight l := by
  induction l with
  | nil => cases h
  | cons y r ih =>
    rw [M3.weight_cons]
    rcases List.mem_cons.1 h with rfl | h
    · omega
    · have := ih h; omega

set_option maxHeartbeats 4000000 in
set_option maxRecDepth 100000 in
theorem domClone (wt : Nat) : ∀ (S : Nat → Prop) (v : Value) (l : List Nd) (w : World), M3.weight l < wt → Few6 l → (∀ b, S b → b < w.heap.size) → RepN S w v l →
    Calls Try.prog 19 #[v] w (FreshPost l w) := by
  induction wt with
  | zero => intro S v l w h; omega
  | succ wt ih =>
    intro S v l w hwt hf hS hr
    have hll := M3.length_le_weight l
    obtain ⟨a, cap, rfl⟩ := hr.slice
    obtain ⟨_, hlc, hcm⟩ := hr.len
    by_cases h0 : l.length = 0
    · obtain rfl : l = [] := List.eq_nil_of_length_eq_zero h0
      go_enter Try.func19, Try.ntmps19
      go_wp2
      go_ret
      exact ⟨_, rfl, ⟨[], [], World.ownsRow_nil _ _ _ _, OwnC.nil _, Span.nil _ _⟩, Below.refl _ _⟩
    have hzb : ((l.length : Int) == 0) = false := by simpa using h0
    obtain ⟨i0, hi0, hz0, hz1, hz2⟩ := info_parts infoN
    obtain ⟨W0, hmk, hownz, hg0⟩ := run_make_full (P := Try.prog) (w := w) w.heap.size 22 28 i0 _ 5 Try.underlying22 hi0 hz0 hz1 .i64 .i64 l.length (by rw [hz2]; omega) (by unfold maxLen; omega) (Nat.le_refl _)
    have hB0 : Below w.heap.size w W0 := ⟨hg0.os, hg0.tape, hg0.output, hg0.size, fun k hk => hg0.block k hk (by simp)⟩
    have hlz : (madeCells (Value.agg #[.int .i64 0, .string ⟨#[]⟩, .slice none 0 0, .string ⟨#[]⟩, .slice none 0 0]).cells (l.length * 5)).toList.length = l.length * 5 := hownz.1
    generalize (madeCells (Value.agg #[.int .i64 0, .string ⟨#[]⟩, .slice none 0 0, .string ⟨#[]⟩, .slice none 0 0]).cells (l.length * 5)).toList = Z0 at *
    clear hg0 h0
    replace hlz := Lib.hid hlz
    go_enter Try.func19, Try.ntmps19
    go_wp2
    go_loopw [14] (fun u14 wr => ∃ (i : Nat) (done Z : List Value) (F : List Nat), i ≤ l.length ∧ u14 = .int .i64 (i : Int) ∧ done.length = i * 5 ∧ Z.length = (l.length - i) * 5 ∧ wr.ownsRow w.heap.size 28 5 (.slice (some ⟨w.heap.size, 0, none⟩) l.length l.length) l.length (done ++ Z) ∧ OwnC wr done (l.take i) F ∧ Span (w.heap.size + 1) wr.heap.size F ∧ Below w.heap.size w wr) (fun u14 _ => l.length - (intOf u14).toNat)
    case atStart => exact ⟨0, [], Z0, [], by omega, rfl, rfl, hlz.out, hownz, by simpa using OwnC.nil _, Span.nil _ _, hB0⟩
    case round =>
      obtain ⟨i, done, Z, F, hi, rfl, hd, hZ, hown, hoc, hsp, hb⟩ := hrel
      have hz := hb.size
      have hgl := (hown.lt w.heap.size rfl).2
      by_cases hlt : i < l.length
      · obtain ⟨b, off, va, vk, rfl, hSb, c0, c1, c2, c3, c4, hrv⟩ := (hr.below hS hb).at_ i hlt
        have hbl := hS b hSb
        have htk : l.take (i + 1) = l.take i ++ [l[i]] := List.take_succ_eq_append_getElem hlt
        have hwx := weight_le (List.getElem_mem hlt)
        generalize l[i] = x at *
        obtain ⟨hat, hkd⟩ := hrv
        obtain ⟨a1, cap1, rfl⟩ := hat.slice
        obtain ⟨a2, cap2, rfl⟩ := hkd.slice
        obtain ⟨z0, z1, z2, z3, z4, Z', rfl⟩ : ∃ z0 z1 z2 z3 z4 Z', Z = z0 :: z1 :: z2 :: z3 :: z4 :: Z' := by
          match Z, hZ with
          | z0 :: z1 :: z2 :: z3 :: z4 :: Z', _ => exact ⟨_, _, _, _, _, _, rfl⟩
          | [], h | [_], h | [_, _], h | [_, _, _], h | [_, _, _, _], h => simp at h; omega
        have hbx := (Below.refl wr.heap.size wr).alloc (Nat.le_refl _) (.cells (x.cells (.slice a1 x.attrs.length cap1) (.slice a2 x.kids.length cap2)).toArray 28)
        have hcl := fun W (hbb : Below w.heap.size w W) => domClone1 S x (.slice a1 x.attrs.length cap1) (.slice a2 x.kids.length cap2) W (fun b h => by have := hS b h; have := hbb.size; omega)
        have hrx : ∀ W, Below wr.heap.size wr W → RepV S W x (.slice a1 x.attrs.length cap1) (.slice a2 x.kids.length cap2) := fun W hW => RepV.below (w := wr) (B := wr.heap.size) ⟨hat, hkd⟩ (fun b h => by have := hS b h; omega) hW
        have hihx := fun W h1 h2 => ih S (.slice a2 x.kids.length cap2) x.kids W (by omega) (by show M3.weight x.kids ≤ 1000000; unfold Few6 at hf; omega) h1 h2
        have hcl2 := hcl (wr.alloc (.cells (x.cells (.slice a1 x.attrs.length cap1) (.slice a2 x.kids.length cap2)).toArray 28)) (hb.alloc hz _) (hrx _ hbx) (by unfold Few6 at hf; omega) hihx
        have hkd0 : Hid True := trivial
        clear hcl hrx hihx
        replace hcl2 := Lib.hid hcl2
        replace htk := Lib.hid htk
        replace hd := Lib.hid hd
        replace hZ := Lib.hid hZ
        replace hoc := Lib.hid hoc
        replace hown := Lib.hid hown
        go_wp2_with (fail)
        refine hcl2.out.mono ?_
        rintro e w2 ⟨va2, vk2, zs2, F2, rfl, oa, ok, hoc2, hsp2, hb2⟩
        obtain ⟨a3, cap3, rfl⟩ := own_slice oa
        obtain ⟨a4, cap4, rfl⟩ := own_slice ok
        have hbw2 : Below wr.heap.size wr w2 := hbx.trans (hb2.mono (by simp))
        have own2 := own_keep hown.out (w' := w2) (fun g hg => by
          have h1 : w.heap.size = g := by simpa [Value.ownBlock] using hg
          rw [← h1]; exact hbw2.block _ hgl)
        have hzz : ∀ j u, ([z0, z1, z2, z3, z4] : List Value)[j]? = some u → (done ++ z0 :: z1 :: z2 :: z3 :: z4 :: Z')[i * 5 + j]? = some u := by
          intro j u hu
          rw [List.getElem?_append_right (by have := hd.out; omega), show i * 5 + j - done.length = j by have := hd.out; omega]
          have := (List.getElem?_eq_some_iff.1 hu).1
          simp at this
          match j, this with
          | 0, _ | 1, _ | 2, _ | 3, _ | 4, _ => exact hu
        obtain ⟨y0, g0⟩ := own_cell own2 _ _ (hzz 0 _ rfl)
        obtain ⟨y1, g1⟩ := own_cell own2 _ _ (hzz 1 _ rfl)
        obtain ⟨y2, g2⟩ := own_cell own2 _ _ (hzz 2 _ rfl)
        obtain ⟨y3, g3⟩ := own_cell own2 _ _ (hzz 3 _ rfl)
        obtain ⟨y4, g4⟩ := own_cell own2 _ _ (hzz 4 _ rfl)
        simp only [Nat.add_zero] at y0 g0
        have hbw : Below w.heap.size w w2 := hb.trans (hbw2.mono hz)
        have hzw := hbw2.size
        replace hzz := Lib.hid hzz
        replace own2 := Lib.hid own2
        replace oa := Lib.hid oa
        replace ok := Lib.hid ok
        replace hoc2 := Lib.hid hoc2
        clear hcl2 c0 c1 c2 c3 c4
        go_wp2_with (fail)
        go_roundw
        case rel =>
          have hp := put5_own own2.out hd.out (.int .i64 x.kind) (.string x.name) (.slice a3 x.attrs.length cap3) (.string x.text) (.slice a4 x.kids.length cap4)
          have hfar := put5_far w2 w.heap.size i (.int .i64 x.kind) (.string x.name) (.slice a3 x.attrs.length cap3) (.string x.text) (.slice a4 x.kids.length cap4)
          have hsz5 := put5_size w2 w.heap.size i (.int .i64 x.kind) (.string x.name) (.slice a3 x.attrs.length cap3) (.string x.text) (.slice a4 x.kids.length cap4)
          have hbl5 := put5_below hbw w.heap.size i (.int .i64 x.kind) (.string x.name) (.slice a3 x.attrs.length cap3) (.string x.text) (.slice a4 x.kids.length cap4) (Nat.le_refl _)
          have hsW : wr.heap.size + 1 = (wr.alloc (.cells (x.cells (.slice a1 x.attrs.length cap1) (.slice a2 x.kids.length cap2)).toArray 28)).heap.size := by simp
          rw [← hsW] at hsp2
          refine ⟨i + 1, done ++ [.int .i64 x.kind, .string x.name, .slice a3 x.attrs.length cap3, .string x.text, .slice a4 x.kids.length cap4], Z', F ++ ((Value.slice a3 x.attrs.length cap3).ownBlock.toList ++ ((Value.slice a4 x.kids.length cap4).ownBlock.toList ++ F2)), by omega, by go_num, by simp; have := hd.out; omega, by have := hZ.out; simp at this; omega, ?_, ?_, ?_, hbl5⟩
          · exact hp
          · rw [htk.out]
            have k1 : OwnC (put5 w2 w.heap.size i (.int .i64 x.kind) (.string x.name) (.slice a3 x.attrs.length cap3) (.string x.text) (.slice a4 x.kids.length cap4)) done (l.take i) F :=
              OwnC.keep _ _ _ (fun b hb' => (hfar b (by have := hsp.2 b hb'; omega)).trans (hbw2.block b (hsp.2 b hb').2)) hoc.out
            refine OwnC.append ?_ _ _ _ k1
            have k2 := own_keep oa.out (w' := put5 w2 w.heap.size i (.int .i64 x.kind) (.string x.name) (.slice a3 x.attrs.length cap3) (.string x.text) (.slice a4 x.kids.length cap4)) (fun g hg => hfar g (by have := (oa.out.lt g hg).1; omega))
            have k3 := own_keep ok.out (w' := put5 w2 w.heap.size i (.int .i64 x.kind) (.string x.name) (.slice a3 x.attrs.length cap3) (.string x.text) (.slice a4 x.kids.length cap4)) (fun g hg => hfar g (by have := (ok.out.lt g hg).1; omega))
            have k4 : OwnC (put5 w2 w.heap.size i (.int .i64 x.kind) (.string x.name) (.slice a3 x.attrs.length cap3) (.string x.text) (.slice a4 x.kids.length cap4)) zs2 x.kids F2 := OwnC.keep _ _ _ (fun b hb' => hfar b (by have := hsp2.2 b (by simp [hb']); omega)) hoc2.out
            exact OwnC.cons_iff.2 ⟨_, _, zs2, [], F2, [], rfl, own_base k2 (fun g _ => Nat.zero_le _), own_base k3 (fun g _ => Nat.zero_le _), by simp, k4, OwnC.nil _⟩
          · show Span _ (put5 w2 w.heap.size i (.int .i64 x.kind) (.string x.name) (.slice a3 x.attrs.length cap3) (.string x.text) (.slice a4 x.kids.length cap4)).heap.size _
            rw [hsz5]
            exact Span.append (mid := wr.heap.size) hsp (hsp2.mono (by omega) (Nat.le_refl _)) (by omega) (by omega)
        case measure => simp [intOf]; omega
      · obtain rfl : i = l.length := by omega
        have hZ0 : Z = [] := List.eq_nil_of_length_eq_zero (by rw [hZ]; simp)
        subst hZ0
        rw [List.append_nil] at hown
        rw [List.take_length] at hoc
        replace hown := Lib.hid hown
        replace hoc := Lib.hid hoc
        clear hd hZ
        go_wp2
        go_ret
        refine ⟨_, rfl, ⟨done, F, hown.out, hoc.out, ?_⟩, hb⟩
        exact Span.append (mid := w.heap.size + 1) ⟨by simp [Value.ownBlock], fun b hb' => by simp [Value.ownBlock] at hb'; omega⟩ hsp (by omega) (by omega)
end Go.Proofs.Ytjelmpajphajfaa

/- Package dom: Merge. -/
namespace Go.Proofs.Ytjelmpajphajfaa
open Go.RowKit

/-- A clone of one node. -/
theorem domCloneN (S : Nat → Prop) (x : Nd) (va vk : Value) (w : World) (hS : ∀ b, S b → b < w.heap.size) (hx : RepV S w x va vk) (hw : 1 + x.attrs.length + M3.weight x.kids ≤ 1000000) :
    Calls Try.prog 49 #[x.val va vk] w (FreshV x w) :=
  domClone1 S x va vk w hS hx (by omega) (fun W2 h3 h4 => domClone (M3.weight x.kids + 1) S _ x.kids W2 (by omega) (by show M3.weight x.kids ≤ 1000000; omega) h3 h4)

theorem Fresh.nil (w : World) (B : Nat) : Fresh w B (.slice none 0 0) [] := ⟨[], [], World.ownsRow_nil _ _ _ _, OwnC.nil _, Span.nil _ _⟩
theorem Fresh.base {w : World} {B B' : Nat} {v : Value} {l : List Nd} (h : Fresh w B v l) (hb : B' ≤ B) : Fresh w B' v l := by
  obtain ⟨zs, F, h1, h2, h3⟩ := h
  exact ⟨zs, F, own_base h1 (fun g hg => by have := (h1.lt g hg).1; omega), h2, h3.mono hb (Nat.le_refl _)⟩
theorem Fresh.keep {w w' : World} {B : Nat} {v : Value} {l : List Nd} (h : Fresh w B v l) (hk : ∀ b, B ≤ b → b < w.heap.size → w'.heap[b]? = w.heap[b]?) (hz : w.heap.size ≤ w'.heap.size) : Fresh w' B v l := by
  obtain ⟨zs, F, h1, h2, h3⟩ := h
  exact ⟨zs, F, own_keep h1 (fun g hg => hk g (h1.lt g hg).1 (h1.lt g hg).2), OwnC.keep _ _ _ (fun b hb => hk b (h3.2 b (by simp [hb])).1 (h3.2 b (by simp [hb])).2) h2, h3.mono (Nat.le_refl _) hz⟩
/-- 'append(out, x)' behind nodes that the call has made, nothing shared. -/
theorem Fresh.snoc {W w5 : World} {B mid g n cap : Nat} {u : Value} {A : List Nd} {zs : List Value} {F : List Nat} {x : Nd} {va vk : Value} {zs2 : List Value} {F2 : List Nat} (hn : n = A.length + 1)
    (hown5 : w5.ownsRow B 28 5 (.slice (some ⟨g, 0, none⟩) n cap) n (zs ++ x.cells va vk)) (hgrow : W.grownBy w5 u.ownBlock) (hat : u.ownBlock = some g ∨ W.heap.size ≤ g)
    (hA : OwnC W zs A F) (hsp : Span B mid (u.ownBlock.toList ++ F))
    (ha : W.ownsRow 0 44 2 va x.attrs.length (cellsA x.attrs)) (hk : W.ownsRow 0 28 5 vk x.kids.length zs2) (hc : OwnC W zs2 x.kids F2) (hsp2 : Span mid W.heap.size (va.ownBlock.toList ++ (vk.ownBlock.toList ++ F2))) (hBm : B ≤ mid) (hm : mid ≤ W.heap.size) :
    Fresh w5 B (.slice (some ⟨g, 0, none⟩) n cap) (A ++ [x]) := by
  subst hn
  have hall : Span B W.heap.size (u.ownBlock.toList ++ F ++ (va.ownBlock.toList ++ (vk.ownBlock.toList ++ F2))) := Span.append hsp hsp2 hBm hm
  have hg5 := (hown5.lt g rfl)
  have hkeep : ∀ b ∈ F ++ (va.ownBlock.toList ++ (vk.ownBlock.toList ++ F2)), w5.heap[b]? = W.heap[b]? := by
    intro b hb
    refine hgrow.block b (hall.2 b (by rcases List.mem_append.1 hb with h | h <;> simp [h])).2 (fun e => ?_)
    have hnd := hall.1
    rw [List.append_assoc] at hnd
    have := (List.nodup_append.1 hnd).2.2 b (by rw [← e]; simp) b hb
    exact this rfl
  have hgn : g ∉ F ++ (va.ownBlock.toList ++ (vk.ownBlock.toList ++ F2)) := by
    intro hb
    rcases hat with h | h
    · have hnd := hall.1
      rw [List.append_assoc] at hnd
      exact (List.nodup_append.1 hnd).2.2 g (by rw [h]; simp) g hb rfl
    · have := (hall.2 g (by rcases List.mem_append.1 hb with h | h <;> simp [h])).2
      omega
  refine ⟨zs ++ x.cells va vk, F ++ (va.ownBlock.toList ++ (vk.ownBlock.toList ++ F2)), by simpa using hown5, ?_, ?_⟩
  · refine OwnC.append ?_ _ _ _ (OwnC.keep _ _ _ (fun b hb => hkeep b (by simp [hb])) hA)
    exact OwnC.cons_iff.2 ⟨va, vk, zs2, [], F2, [], by simp, own_keep ha (fun b hb => hkeep b (by simp [hb])), own_keep hk (fun b hb => hkeep b (by simp [hb])), by simp, OwnC.keep _ _ _ (fun b hb => hkeep b (by simp [hb])) hc, OwnC.nil _⟩
  · have hs := hgrow.size
    refine ⟨?_, fun b hb => ?_⟩
    · show (g :: (F ++ (va.ownBlock.toList ++ (vk.ownBlock.toList ++ F2)))).Nodup
      refine List.nodup_cons.2 ⟨hgn, ?_⟩
      have hnd := hall.1
      rw [List.append_assoc] at hnd
      exact (List.nodup_append.1 hnd).2.1
    · rcases List.mem_append.1 hb with h | h
      · have : b = g := by simpa [Value.ownBlock] using h
        subst this
        exact hg5
      · have := hall.2 b (by rcases List.mem_append.1 h with h | h <;> simp [h])
        omega

theorem front_le (l : List Nd) : ∀ n, l.length ≤ n → (M3.front l).length ≤ l.length := by
  intro n
  induction n generalizing l with
  | zero => intro h; obtain rfl : l = [] := List.eq_nil_of_length_eq_zero (by omega); rw [M3.front_nil]; exact Nat.le_refl _
  | succ n ih =>
    intro h
    cases l with
    | nil => rw [M3.front_nil]; exact Nat.le_refl _
    | cons x r =>
      cases ht : M3.isText x
      · rw [M3.front_no r ht, List.length_cons, List.length_cons]; have := ih r (by simpa using h); omega
      · rw [M3.front_yes r ht, M3.runT_yes r ht, List.length_cons, List.length_cons, List.drop_succ_cons]
        have h2 : (r.drop (M3.runT r)).length ≤ r.length := by simp
        have := ih (r.drop (M3.runT r)) (by simp at h ⊢; omega)
        omega
end Go.Proofs.Ytjelmpajphajfaa

/- The reference of layer 3: merged, of nodes that the call has made, nothing shared. -/
namespace Go.Proofs.Ytjelmpajphajfaa
open Go.RowKit

theorem OwnC.nv {w : World} (l : List Nd) : ∀ (xs : List Value) (F : List Nat), OwnC w xs l F → ∃ L : List NV, L.map NV.x = l ∧ xs = cellsV L ∧ ∀ b ∈ L, b.ok := by
  induction l using Nd.ind with
  | h0 => intro xs F h; rw [OwnC] at h; exact ⟨[], rfl, h.1, fun b hb => by cases hb⟩
  | h1 k n ats t ks r _ ih2 =>
    intro xs F h
    obtain ⟨va, vk, zs, ys, F1, F2, rfl, h2, h3, rfl, h5, h6⟩ := OwnC.cons_iff.1 h
    obtain ⟨L, rfl, rfl, hL⟩ := ih2 _ _ h6
    refine ⟨⟨.mk k n ats t ks, va, vk⟩ :: L, rfl, rfl, fun b hb => ?_⟩
    rcases List.mem_cons.1 hb with rfl | hb
    · exact ⟨own_slice h2, own_slice h3⟩
    · exact hL b hb
theorem OwnC.one {w : World} {b : NV} {F : List Nat} (h : OwnC w b.cells [b.x] F) : ∃ zs F1, w.ownsRow 0 44 2 b.va b.x.attrs.length (cellsA b.x.attrs) ∧ w.ownsRow 0 28 5 b.vk b.x.kids.length zs ∧ F = b.va.ownBlock.toList ++ (b.vk.ownBlock.toList ++ F1) ∧ OwnC w zs b.x.kids F1 := by
  obtain ⟨va, vk, zs, ys, F1, F2, h1, h2, h3, rfl, h5, h6⟩ := OwnC.cons_iff.1 h
  rw [OwnC] at h6
  obtain ⟨rfl, rfl⟩ := h6
  obtain ⟨x, va', vk'⟩ := b
  cases h1
  exact ⟨zs, F1, h2, h3, by simp, h5⟩
theorem OwnC.mk_one {w : World} {b : NV} {zs : List Value} {F1 : List Nat} (h2 : w.ownsRow 0 44 2 b.va b.x.attrs.length (cellsA b.x.attrs)) (h3 : w.ownsRow 0 28 5 b.vk b.x.kids.length zs) (h5 : OwnC w zs b.x.kids F1) :
    OwnC w b.cells [b.x] (b.va.ownBlock.toList ++ (b.vk.ownBlock.toList ++ F1)) :=
  OwnC.cons_iff.2 ⟨b.va, b.vk, zs, [], F1, [], by simp, h2, h3, by simp, h5, OwnC.nil _⟩
theorem OwnC.split {w : World} {m : List Nd} {ys : List Value} (l : List Nd) : ∀ (xs : List Value) (F : List Nat), xs.length = l.length * 5 → OwnC w (xs ++ ys) (l ++ m) F → ∃ F1 F2, F = F1 ++ F2 ∧ OwnC w xs l F1 ∧ OwnC w ys m F2 := by
  induction l using Nd.ind with
  | h0 =>
    intro xs F hl h
    obtain rfl : xs = [] := List.eq_nil_of_length_eq_zero (by simpa using hl)
    exact ⟨[], F, rfl, OwnC.nil _, h⟩
  | h1 k n ats t ks r _ ih2 =>
    intro xs F hl h
    obtain ⟨va, vk, zs, ys', F1, F2, h1, h2, h3, rfl, h5, h6⟩ := OwnC.cons_iff.1 h
    obtain ⟨xs', rfl⟩ : ∃ xs', xs = (Nd.mk k n ats t ks).cells va vk ++ xs' := by
      match xs, hl, h1 with
      | c0 :: c1 :: c2 :: c3 :: c4 :: xs', _, h1 =>
        simp only [List.cons_append, List.cons.injEq, List.nil_append] at h1
        obtain ⟨rfl, rfl, rfl, rfl, rfl, _⟩ := h1
        exact ⟨xs', rfl⟩
      | [], hl, _ | [_], hl, _ | [_, _], hl, _ | [_, _, _], hl, _ | [_, _, _, _], hl, _ => exact absurd hl (by simp <;> omega)
    rw [List.append_assoc] at h1
    have h1' : xs' ++ ys = ys' := List.append_cancel_left h1
    subst h1'
    obtain ⟨G1, G2, rfl, g1, g2⟩ := ih2 xs' F2 (by simp at hl; omega) h6
    exact ⟨_, G2, (by rw [← List.append_assoc]), OwnC.cons_iff.2 ⟨va, vk, zs, xs', F1, G1, rfl, h2, h3, rfl, h5, g1⟩, g2⟩
theorem OwnC.text {w : World} {b : NV} {F : List Nat} (t : ByteArray) (h : OwnC w b.cells [b.x] F) : OwnC w (b.withText t).cells [(b.withText t).x] F := by
  obtain ⟨zs, F1, h1, h2, rfl, h4⟩ := h.one
  obtain ⟨⟨k, n, ats, t0, ks⟩, va, vk⟩ := b
  exact OwnC.mk_one (b := ⟨.mk k n ats t ks, va, vk⟩) h1 h2 h4
theorem ownC_merge {w : World} : ∀ (L out : List NV) (F Fo : List Nat), OwnC w (cellsV L) (L.map NV.x) F → OwnC w (cellsV out) (out.map NV.x) Fo → ∃ F', OwnC w (cellsV (L.foldl pushV out)) ((L.foldl pushV out).map NV.x) F' ∧ F'.Sublist (Fo ++ F) := by
  intro L
  induction L with
  | nil => intro out F Fo h ho; rw [OwnC.eq_def] at h; exact ⟨Fo, ho, by simp⟩
  | cons b r ih =>
    intro out F Fo h ho
    rw [cellsV_cons, ← List.singleton_append, List.map_append] at h
    obtain ⟨Fb, Fr, rfl, hb, hr⟩ := OwnC.split [b.x] b.cells F rfl h
    rw [List.foldl_cons]
    have key : ∃ Fp, OwnC w (cellsV (pushV out b)) ((pushV out b).map NV.x) Fp ∧ Fp.Sublist (Fo ++ Fb) := by
      cases hbr : bareV b
      · rcases List.eq_nil_or_concat out with rfl | ⟨o, y, rfl⟩
        · rw [pushV_nil hbr, cellsV_one]
          exact ⟨Fb, hb, List.sublist_append_right _ _⟩
        · rw [List.concat_eq_append] at ho ⊢
          rw [pushV_snoc hbr]
          split
          · rw [cellsV_snoc, List.map_append] at ho
            obtain ⟨G1, G2, rfl, g1, g2⟩ := OwnC.split (o.map NV.x) (cellsV o) Fo (by rw [cellsV_len, List.length_map]) ho
            refine ⟨G1 ++ G2, ?_, List.sublist_append_left _ _⟩
            rw [cellsV_snoc, List.map_append]
            exact OwnC.append (OwnC.text _ g2) _ _ _ g1
          · refine ⟨Fo ++ Fb, ?_, List.Sublist.refl _⟩
            rw [cellsV_snoc, List.map_append]
            exact OwnC.append hb _ _ _ ho
      · rw [pushV_bare hbr]
        exact ⟨Fo, ho, List.sublist_append_left _ _⟩
    obtain ⟨Fp, hp, hs⟩ := key
    obtain ⟨F', h1, h2⟩ := ih (pushV out b) Fr Fp hr hp
    refine ⟨F', h1, h2.trans ?_⟩
    rw [← List.append_assoc]
    exact List.Sublist.append hs (List.Sublist.refl _)

def FreshB (B : Nat) (l : List Nd) (w : World) (e : Ending) (w' : World) : Prop := ∃ v', e = .returned v' ∧ Fresh w' B v' l ∧ Below w.heap.size w w'
theorem ref03MergeF (B : Nat) (v : Value) (l : List Nd) (w : World) (hB : B ≤ w.heap.size) (hf : Fresh w B v l) (hl : l.length ≤ 1000000) (ht : txtN l ≤ 1073741824) :
    Calls Try.prog 28 #[v] w (FreshB B (M3.merge l) w) := by
  obtain ⟨zs, F, hown, hoc, hsp⟩ := hf
  obtain ⟨L, rfl, rfl, hL⟩ := OwnC.nv _ _ _ hoc
  rw [List.length_map] at hown hl
  refine (ref03MergeV (fun b => b < w.heap.size) v L w (fun _ h => h) (Row.own hown (fun g hg => (hown.lt g hg).2)) hL hl (by rw [← txtV_map] at ht; exact ht)).mono ?_
  rintro e w1 ⟨v1, rfl, hown1, hb⟩
  obtain ⟨F', h1, h2⟩ := ownC_merge L [] F [] hoc (OwnC.nil _)
  rw [List.nil_append] at h2
  refine ⟨v1, rfl, ⟨cellsV (mergeV L), F', ?_, ?_, ?_⟩, hb⟩
  · rw [← mergeV_map, List.length_map]; exact own_base hown1 (fun g hg => by have := (hown1.lt g hg).1; omega)
  · rw [← mergeV_map]
    exact OwnC.keep _ _ _ (fun b hb' => hb.block b (hsp.2 b (List.mem_append_right _ (h2.subset hb'))).2) h1
  · have hz := hb.size
    have s1 := Span.own hown1
    refine ⟨List.nodup_append.2 ⟨s1.1, h2.nodup (List.nodup_append.1 hsp.1).2.1, fun a ha b hb' e => ?_⟩, fun b hb' => ?_⟩
    · have h3 := (s1.2 a ha).1
      have h4 := (hsp.2 b (List.mem_append_right _ (h2.subset hb'))).2
      omega
    · rcases List.mem_append.1 hb' with h | h
      · have := s1.2 b h; omega
      · have := hsp.2 b (List.mem_append_right _ (h2.subset h)); omega
end Go.Proofs.Ytjelmpajphajfaa

/- Package dom: Merge, walked. -/
namespace Go.Proofs.Ytjelmpajphajfaa
open Go.RowKit

theorem txtN_filled (l : List Nd) : txtN (M3.filled l) ≤ txtN l := by
  induction l with
  | nil => exact Nat.le_refl _
  | cons x r ih =>
    rw [M3.filled_cons, txtN_cons]
    split
    · omega
    · rw [txtN_cons]; omega
def slN : Value → Nat
  | .slice _ n _ => n
  | _ => 0
set_option maxHeartbeats 8000000 in
set_option maxRecDepth 100000 in
theorem domMerge (S : Nat → Prop) (v : Value) (l : List Nd) (w : World) (hS : ∀ b, S b → b < w.heap.size) (hr : RepN S w v l) (hw : M3.weight l ≤ 1000000) (ht : txtN l ≤ 1073741824) :
    Calls Try.prog 27 #[v] w (FreshPost (M3.merge l) w) := by
  have hll := M3.length_le_weight l
  obtain ⟨xs0, hrow, hrc⟩ := hr
  obtain ⟨L, rfl, rfl, hL⟩ := RepC.nv _ _ hrc
  have hF := Lib.hid (fun W h1 h2 => domFilledV S v L W h1 h2 (fun b hb => (hL b hb).ok) (by rw [List.length_map] at hll; omega))
  rw [List.length_map] at hrow
  obtain ⟨a, cap, rfl⟩ := hrow.slice
  have hmf : Hid (M3.merge (L.map NV.x) = M3.front (M3.filled (L.map NV.x))) := M3.merge_front _
  have hwf : ∀ x ∈ M3.filled (L.map NV.x), 1 + x.attrs.length + M3.weight x.kids ≤ 1000000 := fun x hx => Nat.le_trans (weight_le (M3.filled_mem hx)) hw
  have htf : txtN (M3.filled (L.map NV.x)) ≤ 1073741824 := Nat.le_trans (txtN_filled _) ht
  have hlf : (M3.filled (L.map NV.x)).length ≤ 1000000 := by
    have h1 : (M3.filled (L.map NV.x)).length ≤ (L.map NV.x).length := List.length_filter_le _ _
    omega
  go_enter Try.func27, Try.ntmps27
  go_wp2_with (fail)
  refine (hF.out w hS hrow).mono ?_
  rintro e w1 ⟨v1, rfl, hown1, hb1⟩
  have hz1 := hb1.size
  have hrep1 : RepN (fun b => b < w1.heap.size) w1 v1 (M3.filled (L.map NV.x)) := by
    rw [← filledV_map]
    refine ⟨cellsV (filledV L), by rw [List.length_map]; exact Row.own hown1 (fun g hg => (hown1.lt g hg).2), ?_⟩
    refine RepC.of_nv (fun b hb => ?_)
    exact ((hL b (List.mem_filter.1 hb).1).below hS hb1).mono (fun c hc => by have := hS c hc; omega)
  generalize M3.filled (L.map NV.x) = R0 at *
  replace hwf := Lib.hid hwf
  clear hF hown1 hL hrc
  obtain ⟨a1, c1, rfl⟩ := hrep1.slice
  go_wp2_with (fail)
  go_loopw [0, 3, 4, 5] (fun u0 u3 _ _ wr => ∃ R A : List Nd, RepN (fun b => b < w1.heap.size) wr u0 R ∧ Hid (∃ j, R = R0.drop j) ∧ Hid (M3.front R0 = A ++ M3.front R) ∧ Fresh wr w1.heap.size u3 A ∧ Below w1.heap.size w1 wr) (fun u0 _ _ _ _ => slN u0)
  case atStart => exact ⟨R0, [], hrep1, Lib.hid ⟨0, rfl⟩, rfl, Fresh.nil _ _, Below.refl _ _⟩
  case round =>
    obtain ⟨R, A, hR, hsuf, hfr, hfa, hb⟩ := hrel
    obtain ⟨a0, k0, rfl⟩ := hR.slice
    obtain ⟨_, hlc, hcm⟩ := hR.len
    have hz := hb.size
    cases R with
    | nil =>
      have hfin : Hid (M3.merge (L.map NV.x) = A) := by show _ = _; rw [hmf.out, hfr.out, M3.front_nil, List.append_nil]
      clear hfr hmf
      replace hfa := Lib.hid hfa
      go_wp2_with (fail)
      go_ret
      exact ⟨u3, rfl, by rw [hfin.out]; exact Fresh.base hfa.out hz1, hb1.trans (hb.mono hz1)⟩
    | cons x r =>
      have hlA : A.length ≤ 1000000 := by
        have h1 := front_le R0 _ (Nat.le_refl _)
        rw [hfr.out, List.length_append] at h1
        omega
      have hRl : (x :: r).length ≤ 1000000 := by
        obtain ⟨j, hj⟩ := hsuf.out
        rw [hj]; simp; omega
      have hxm : x ∈ R0 := by
        obtain ⟨j, hj⟩ := hsuf.out
        exact List.mem_of_mem_drop (by rw [← hj]; simp)
      have htR : txtN (x :: r) ≤ 1073741824 := by
        obtain ⟨j, hj⟩ := hsuf.out
        have : txtN R0 = txtN (R0.take j) + txtN (R0.drop j) := by rw [← txtN_append, List.take_append_drop]
        rw [hj]; omega
      obtain ⟨b, off, va, vk, rfl, hSb, d0, d1, d2, d3, d4, hrv⟩ := hR.at_ 0 (by simp)
      simp only [List.getElem_cons_zero, Nat.zero_mul, Nat.add_zero] at d0 d1 d2 d3 d4 hrv
      obtain ⟨a3, c3, rfl⟩ := hrv.at_.slice
      obtain ⟨a4, c4, rfl⟩ := hrv.kids.slice
      have hcl := Lib.hid (domCloneN _ x _ _ wr (fun b h => by omega) hrv (hwf.out x hxm))
      have hl1 : (0 : Int) < ((x :: r).length : Int) := by simp
      clear hrv hxm
      obtain ⟨zs, F, hownA, hocA, hspA⟩ := hfa
      replace hownA := Lib.hid hownA
      replace hocA := Lib.hid hocA
      replace hspA := Lib.hid hspA
      replace hR := Lib.hid hR
      generalize hRg : (x :: r).length = rl at *
      replace hRg := Lib.hid hRg
      go_wp2_with (fail)
      refine hcl.out.mono ?_
      rintro e w2 ⟨va2, vk2, zs2, F2, rfl, oa, ok, hoc2, hsp2, hb2⟩
      clear hcl
      obtain ⟨a5, c5, rfl⟩ := own_slice oa
      obtain ⟨a6, c6, rfl⟩ := own_slice ok
      have hz2 := hb2.size
      replace oa := Lib.hid oa
      replace ok := Lib.hid ok
      replace hoc2 := Lib.hid hoc2
      replace hsp2 := Lib.hid hsp2
      obtain ⟨j0, hj0, hj00, hj01, hj02⟩ := info_parts infoN
      have hbw2 : Below w1.heap.size w1 w2 := hb.trans (hb2.mono hz)
      have hownA2 := own_below hownA.out hb2
      have hocA2 := OwnC.keep (w' := w2) _ _ _ (fun b h => hb2.block b (hspA.out.2 b (by simp [h])).2) hocA.out
      replace hownA2 := Lib.hid hownA2
      replace hocA2 := Lib.hid hocA2
      have hRw2 := Lib.hid (RepN.below hR.out (fun b h => Nat.lt_of_lt_of_le h hz) hb2)
      clear d0 d1 d2 d3 d4
      have hQ1 : (1 : Int) ≤ (rl : Int) := by omega
      have hQ2 : (rl : Int) ≤ (k0 : Int) := by omega
      have hbx0 := Box.new w2 28 (x.cells (.slice a5 x.attrs.length c5) (.slice a6 x.kids.length c6))
      cases htx : (x.kind == 2)
      · have hft : M3.isText x = false := htx
        have hfr2 : Hid (M3.front R0 = (A ++ [x]) ++ M3.front r) := by show _ = _; rw [hfr.out, M3.front_no r hft]; simp
        have hsz3 : (w2.alloc (.cells (x.cells (.slice a5 x.attrs.length c5) (.slice a6 x.kids.length c6)).toArray 28)).heap.size = w2.heap.size + 1 := by simp
        have hb3 := hbw2.alloc (by omega) (.cells (x.cells (.slice a5 x.attrs.length c5) (.slice a6 x.kids.length c6)).toArray 28)
        go_wp2_with (fail)
        obtain ⟨W3, hW3⟩ : ∃ W3, w2.alloc (.cells (x.cells (.slice a5 x.attrs.length c5) (.slice a6 x.kids.length c6)).toArray 28) = W3 := ⟨_, rfl⟩
        change Box (w2.alloc (.cells (x.cells (.slice a5 x.attrs.length c5) (.slice a6 x.kids.length c6)).toArray 28)) _ _ _ at hbx0
        have hbx3 : Below w2.heap.size w2 (w2.alloc (.cells (x.cells (.slice a5 x.attrs.length c5) (.slice a6 x.kids.length c6)).toArray 28)) := (Below.refl _ _).alloc (Nat.le_refl _) _
        rw [hW3] at hbx0 hb3 hsz3 hbx3 ⊢
        clear hW3
        have p0 := hbx0.cell (i := 0) rfl
        have p1 := hbx0.cell (i := 1) rfl
        have p2 := hbx0.cell (i := 2) rfl
        have p3 := hbx0.cell (i := 3) rfl
        have p4 := hbx0.cell (i := 4) rfl
        have hownA3 := own_below hownA2.out hbx3
        have hub : u3.ownBlock ≠ some w2.heap.size := fun e => by have := (hownA2.out.lt _ e).2; omega
        have hz3 := hbx3.size
        have hws : w1.heap.size ≤ W3.heap.size := by omega
        replace hsz3 := Lib.hid hsz3
        go_region_held3 (fun w' => w'.cell? ⟨w2.heap.size, 0, none⟩ = some (.int .i64 x.kind) ∧ w'.cell? ⟨w2.heap.size, 1, none⟩ = some (.string x.name) ∧ w'.cell? ⟨w2.heap.size, 2, none⟩ = some (.slice a5 x.attrs.length c5) ∧ w'.cell? ⟨w2.heap.size, 3, none⟩ = some (.string x.text) ∧ w'.cell? ⟨w2.heap.size, 4, none⟩ = some (.slice a6 x.kids.length c6))
          (first
            | go_keep
            | assumption
            | (go_split_ands
               refine ⟨?_, ?_, ?_, ?_, ?_⟩
               · (rw [hgrow.cell_far _ (by simp; have := hsz3.out; omega) (Ne.symm hub)]; assumption)
               · (rw [hgrow.cell_far _ (by simp; have := hsz3.out; omega) (Ne.symm hub)]; assumption)
               · (rw [hgrow.cell_far _ (by simp; have := hsz3.out; omega) (Ne.symm hub)]; assumption)
               · (rw [hgrow.cell_far _ (by simp; have := hsz3.out; omega) (Ne.symm hub)]; assumption)
               · (rw [hgrow.cell_far _ (by simp; have := hsz3.out; omega) (Ne.symm hub)]; assumption)))
          ((refine step_append_lies _ (by rfl) _ _ _ (by rfl) w1.heap.size 28 j0 _ 5 88 Try.underlying22 hj0 hj00 hj01 hj02 rfl (by omega) u3 A.length zs (by rfl) ((hownA3.alloc _).drew) ⟨W3.heap.size, 0, none⟩ 1 1 [.int .i64 x.kind, .string x.name, .slice a5 x.attrs.length c5, .string x.text, .slice a6 x.kids.length c6] (by rfl) (by rfl) (World.news_of_block (cs := #[.int .i64 x.kind, .string x.name, .slice a5 x.attrs.length c5, .string x.text, .slice a6 x.kids.length c6]) (t := 28) (fr := (0, 0)) (heap_alloc_new W3 _)) (five_one _ _ _ _ _ _ _ _ _) (by omega) (by unfold maxLen; omega) (by omega) (by simp; omega) (W3.heap.size + 1) (by simp) ?_; intro gg cap w5 hown5 hgrow hat hlt))
        go_wp2_with (fail)
        have hWW : Below w2.heap.size w2 (W3.alloc (.cells #[.int .i64 x.kind, .string x.name, .slice a5 x.attrs.length c5, .string x.text, .slice a6 x.kids.length c6] 28)).drew := (hbx3.alloc hz3 _).drew
        have hzW : (W3.alloc (.cells #[.int .i64 x.kind, .string x.name, .slice a5 x.attrs.length c5, .string x.text, .slice a6 x.kids.length c6] 28)).drew.heap.size = w2.heap.size + 2 := by simp; have := hsz3.out; omega
        have hfa5 : Fresh w5 w1.heap.size (.slice (some ⟨gg, 0, none⟩) (A.length + 1) cap) (A ++ [x]) := by
          refine Fresh.snoc (W := (W3.alloc (.cells #[.int .i64 x.kind, .string x.name, .slice a5 x.attrs.length c5, .string x.text, .slice a6 x.kids.length c6] 28)).drew) (mid := wr.heap.size) (zs2 := zs2) (F2 := F2) rfl hown5 hgrow ?_ (OwnC.keep _ _ _ (fun b h => hWW.block b (by have := (hspA.out.2 b (by simp [h])).2; omega)) hocA2.out) hspA.out ?_ ?_ (OwnC.keep _ _ _ (fun b h => hWW.block b (hsp2.out.2 b (by simp [h])).2) hoc2.out) (hsp2.out.mono (Nat.le_refl _) (by omega)) hz (by omega)
          · rcases hat with h | h
            · exact Or.inl h
            · exact Or.inr (by rw [h]; simp)
          · exact own_base (own_below oa.out hWW) (fun _ _ => Nat.zero_le _)
          · exact own_base (own_below ok.out hWW) (fun _ _ => Nat.zero_le _)
        have hb5 : Below w1.heap.size w1 w5 := ((hb3.alloc hws _).drew).grown hgrow (by simp; omega) (fun g hg => (hownA.out.lt g hg).1)
        have hw25 : Below w1.heap.size w2 w5 := (((Below.refl w1.heap.size w2).trans (hbx3.mono (by omega))).alloc hws _).drew.grown hgrow (by simp; omega) (fun g hg => (hownA.out.lt g hg).1)
        have hR5 := (hRw2.out.below (fun b h => h) hw25).rest 1 (by simp)
        clear hown5 hgrow hat hlt
        replace hfa5 := Lib.hid hfa5
        replace hR5 := Lib.hid hR5
        go_roundw
        case rel =>
          refine ⟨r, A ++ [x], hR5.out, ?_, hfr2, hfa5.out, hb5⟩
          obtain ⟨j, hj⟩ := hsuf.out
          refine Lib.hid ⟨j + 1, ?_⟩
          rw [← List.drop_drop, ← hj]; rfl
        case measure => show rl - 1 < rl; omega
      · have hft : M3.isText x = true := htx
        have hfr2 : Hid (M3.front R0 = (A ++ [M3.withText x (M3.joinT (x :: r))]) ++ M3.front ((x :: r).drop (M3.runT (x :: r)))) := by show _ = _; rw [hfr.out, M3.front_yes r hft]; simp
        have hq1 : 1 ≤ M3.runT (x :: r) := by rw [M3.runT_yes r hft]; omega
        have hq2 : M3.runT (x :: r) ≤ rl := by have := M3.runT_le (x :: r); have := hRg.out; omega
        have hsz3 : (w2.alloc (.cells (x.cells (.slice a5 x.attrs.length c5) (.slice a6 x.kids.length c6)).toArray 28)).heap.size = w2.heap.size + 1 := by simp
        have hb3 := hbw2.alloc (by omega) (.cells (x.cells (.slice a5 x.attrs.length c5) (.slice a6 x.kids.length c6)).toArray 28)
        have hbx3 : Below w2.heap.size w2 (w2.alloc (.cells (x.cells (.slice a5 x.attrs.length c5) (.slice a6 x.kids.length c6)).toArray 28)) := (Below.refl _ _).alloc (Nat.le_refl _) _
        have hJ := Lib.hid (fun h1 h2 => domJoined (fun b => b < w1.heap.size) (.slice (some ⟨b, off, none⟩) rl k0) (x :: r) (w2.alloc (.cells (x.cells (.slice a5 x.attrs.length c5) (.slice a6 x.kids.length c6)).toArray 28)) h1 h2 (by have := hRg.out; omega) htR)
        have hRw3 := RepN.below hRw2.out (fun b h => by omega) hbx3
        go_wp2_with (fail)
        refine (hJ.out (fun b h => by omega) hRw3).mono ?_
        rintro e w4 ⟨rfl, hb4⟩
        have hbx4 := (show Box (w2.alloc (.cells (x.cells (.slice a5 x.attrs.length c5) (.slice a6 x.kids.length c6)).toArray 28)) _ _ _ from hbx0).below hb4 (by omega)
        have s3 := hbx4.cell (i := 3) rfl
        have f3 := hbx4.free 3
        have hb24 : Below w2.heap.size w2 w4 := hbx3.trans (hb4.mono (by omega))
        have hz4 := hb4.size
        go_wp2_with (fail)
        have hbx5 := hbx4.set 3 (.string (M3.joinT (x :: r)))
        have hbx6 : Below w2.heap.size w2 (w4.setCell ⟨w2.heap.size, 3, none⟩ (.string (M3.joinT (x :: r)))) := hb24.setCell (p := ⟨w2.heap.size, 3, none⟩) (Nat.le_refl _) _
        have hsz6 : (w4.setCell ⟨w2.heap.size, 3, none⟩ (.string (M3.joinT (x :: r)))).heap.size = w4.heap.size := by simp [World.setCell]
        have hb6 : Below w1.heap.size w1 (w4.setCell ⟨w2.heap.size, 3, none⟩ (.string (M3.joinT (x :: r)))) := hbw2.trans (hbx6.mono (by omega))
        clear hbx4 s3 f3 hbx3 hb3
        obtain ⟨W3, hW3⟩ : ∃ W3, w4.setCell ⟨w2.heap.size, 3, none⟩ (.string (M3.joinT (x :: r))) = W3 := ⟨_, rfl⟩
        rw [hW3] at hbx5 hb6 hsz6 hbx6 ⊢
        clear hW3
        have hbx3 := hbx6
        have hb3 := hb6
        have hsz3 : w2.heap.size + 1 ≤ W3.heap.size := by omega
        clear hbx6 hb6 hsz6
        simp only [List.set_cons_succ, List.set_cons_zero] at hbx5
        have p0 := hbx5.cell (i := 0) rfl
        have p1 := hbx5.cell (i := 1) rfl
        have p2 := hbx5.cell (i := 2) rfl
        have p3 := hbx5.cell (i := 3) rfl
        have p4 := hbx5.cell (i := 4) rfl
        have hownA3 := own_below hownA2.out hbx3
        have hub : u3.ownBlock ≠ some w2.heap.size := fun e => by have := (hownA2.out.lt _ e).2; omega
        have hz3 := hbx3.size
        have hws : w1.heap.size ≤ W3.heap.size := by omega
        replace hsz3 := Lib.hid hsz3
        go_region_held3 (fun w' => w'.cell? ⟨w2.heap.size, 0, none⟩ = some (.int .i64 x.kind) ∧ w'.cell? ⟨w2.heap.size, 1, none⟩ = some (.string x.name) ∧ w'.cell? ⟨w2.heap.size, 2, none⟩ = some (.slice a5 x.attrs.length c5) ∧ w'.cell? ⟨w2.heap.size, 3, none⟩ = some (.string (M3.joinT (x :: r))) ∧ w'.cell? ⟨w2.heap.size, 4, none⟩ = some (.slice a6 x.kids.length c6))
          (first
            | go_keep
            | assumption
            | (go_split_ands
               refine ⟨?_, ?_, ?_, ?_, ?_⟩
               · (rw [hgrow.cell_far _ (by simp; have := hsz3.out; omega) (Ne.symm hub)]; assumption)
               · (rw [hgrow.cell_far _ (by simp; have := hsz3.out; omega) (Ne.symm hub)]; assumption)
               · (rw [hgrow.cell_far _ (by simp; have := hsz3.out; omega) (Ne.symm hub)]; assumption)
               · (rw [hgrow.cell_far _ (by simp; have := hsz3.out; omega) (Ne.symm hub)]; assumption)
               · (rw [hgrow.cell_far _ (by simp; have := hsz3.out; omega) (Ne.symm hub)]; assumption)))
          ((refine step_append_lies _ (by rfl) _ _ _ (by rfl) w1.heap.size 28 j0 _ 5 88 Try.underlying22 hj0 hj00 hj01 hj02 rfl (by omega) u3 A.length zs (by rfl) ((hownA3.alloc _).drew) ⟨W3.heap.size, 0, none⟩ 1 1 [.int .i64 x.kind, .string x.name, .slice a5 x.attrs.length c5, .string (M3.joinT (x :: r)), .slice a6 x.kids.length c6] (by rfl) (by rfl) (World.news_of_block (cs := #[.int .i64 x.kind, .string x.name, .slice a5 x.attrs.length c5, .string (M3.joinT (x :: r)), .slice a6 x.kids.length c6]) (t := 28) (fr := (0, 0)) (heap_alloc_new W3 _)) (five_one _ _ _ _ _ _ _ _ _) (by omega) (by unfold maxLen; omega) (by omega) (by simp; omega) (W3.heap.size + 1) (by simp) ?_; intro gg cap w5 hown5 hgrow hat hlt))
        go_wp2_with (fail)
        have hWW : Below w2.heap.size w2 (W3.alloc (.cells #[.int .i64 x.kind, .string x.name, .slice a5 x.attrs.length c5, .string (M3.joinT (x :: r)), .slice a6 x.kids.length c6] 28)).drew := (hbx3.alloc hz3 _).drew
        have hzW : (W3.alloc (.cells #[.int .i64 x.kind, .string x.name, .slice a5 x.attrs.length c5, .string (M3.joinT (x :: r)), .slice a6 x.kids.length c6] 28)).drew.heap.size = W3.heap.size + 1 := by simp
        have hfa5 : Fresh w5 w1.heap.size (.slice (some ⟨gg, 0, none⟩) (A.length + 1) cap) (A ++ [M3.withText x (M3.joinT (x :: r))]) := by
          refine Fresh.snoc (W := (W3.alloc (.cells #[.int .i64 x.kind, .string x.name, .slice a5 x.attrs.length c5, .string (M3.joinT (x :: r)), .slice a6 x.kids.length c6] 28)).drew) (mid := wr.heap.size) (zs2 := zs2) (F2 := F2) rfl hown5 hgrow ?_ (OwnC.keep _ _ _ (fun b h => hWW.block b (by have := (hspA.out.2 b (by simp [h])).2; omega)) hocA2.out) hspA.out ?_ ?_ (OwnC.keep _ _ _ (fun b h => hWW.block b (hsp2.out.2 b (by simp [h])).2) hoc2.out) (hsp2.out.mono (Nat.le_refl _) (by omega)) hz (by omega)
          · rcases hat with h | h
            · exact Or.inl h
            · exact Or.inr (by rw [h]; simp)
          · exact own_base (own_below oa.out hWW) (fun _ _ => Nat.zero_le _)
          · exact own_base (own_below ok.out hWW) (fun _ _ => Nat.zero_le _)
        have hb5 : Below w1.heap.size w1 w5 := ((hb3.alloc hws _).drew).grown hgrow (by simp; omega) (fun g hg => (hownA.out.lt g hg).1)
        have hw25 : Below w1.heap.size w2 w5 := (((Below.refl w1.heap.size w2).trans (hbx3.mono (by omega))).alloc hws _).drew.grown hgrow (by simp; omega) (fun g hg => (hownA.out.lt g hg).1)
        have hR5 := (hRw2.out.below (fun b h => h) hw25).rest (M3.runT (x :: r)) (M3.runT_le _)
        clear hown5 hgrow hat hlt
        replace hfa5 := Lib.hid hfa5
        replace hR5 := Lib.hid hR5
        go_roundw
        case rel =>
          refine ⟨(x :: r).drop (M3.runT (x :: r)), A ++ [M3.withText x (M3.joinT (x :: r))], hR5.out, ?_, hfr2, hfa5.out, hb5⟩
          obtain ⟨j, hj⟩ := hsuf.out
          refine Lib.hid ⟨j + M3.runT (x :: r), ?_⟩
          rw [← List.drop_drop, ← hj]
        case measure => show rl - M3.runT (x :: r) < rl; omega
end Go.Proofs.Ytjelmpajphajfaa

/- Package dom: the same. -/
namespace Go.Proofs.Ytjelmpajphajfaa
open Go.RowKit

def oneSame (x y : Nd) : Bool := x.kind == y.kind && M3.eqB x.name y.name && M3.eqB x.text y.text && M3.sameA x.attrs y.attrs && M3.sameN x.kids y.kids
theorem sameA_drop (a b : List Att) (i : Nat) (h : i < a.length) (h2 : i < b.length) : M3.sameA (a.drop i) (b.drop i) = (M3.eqB a[i].name b[i].name && M3.eqB a[i].value b[i].value && M3.sameA (a.drop (i + 1)) (b.drop (i + 1))) := by
  rw [List.drop_eq_getElem_cons h, List.drop_eq_getElem_cons h2, M3.sameA]
theorem sameN_drop (a b : List Nd) (i : Nat) (h : i < a.length) (h2 : i < b.length) : M3.sameN (a.drop i) (b.drop i) = (oneSame a[i] b[i] && M3.sameN (a.drop (i + 1)) (b.drop (i + 1))) := by
  rw [List.drop_eq_getElem_cons h, List.drop_eq_getElem_cons h2, M3.sameN_cons]; rfl

set_option maxHeartbeats 2000000 in
set_option maxRecDepth 100000 in
theorem slEqual (S : Nat → Prop) (a b : List Att) (va vb : Value) (w : World) (hS : ∀ b, S b → b < w.heap.size) (ha : Row S w 2 va a.length (cellsA a)) (hb : Row S w 2 vb b.length (cellsA b)) :
    Calls Try.prog 78 #[va, vb] w fun e w' => e = .returned (.bool (M3.sameA a b)) ∧ Below w.heap.size w w' := by
  obtain ⟨a1, cap1, rfl⟩ := ha.slice
  obtain ⟨a2, cap2, rfl⟩ := hb.slice
  obtain ⟨_, hl1, hm1⟩ := ha.len
  obtain ⟨_, hl2, hm2⟩ := hb.len
  by_cases hne : a.length = b.length
  · have hz : ((a.length : Int) == (b.length : Int)) = true := by simp [hne]
    have h0 : Hid (M3.sameA a b = M3.sameA (a.drop 0) (b.drop 0)) := rfl
    replace hne := Lib.hid hne
    go_enter Try.func78, Try.ntmps78
    go_wp2
    go_loopw [5, 13] (fun _ u13 wr => ∃ i : Nat, i ≤ a.length ∧ u13 = .int .i64 (i : Int) ∧ Hid (M3.sameA a b = M3.sameA (a.drop i) (b.drop i)) ∧ Below w.heap.size w wr) (fun _ u13 _ => a.length - (intOf u13).toNat)
    case atStart => exact ⟨0, by omega, rfl, h0, Below.refl _ _⟩
    case round =>
      obtain ⟨i, hi, rfl, hv, hbw⟩ := hrel
      clear h0
      by_cases hlt : i < a.length
      · have hlt2 : i < b.length := by have := hne.out; omega
        have hI0 : (0 : Int) ≤ (i : Int) := by omega
        have hI1 : (i : Int) < (a.length : Int) := by omega
        have hI2 : (i : Int) < (b.length : Int) := by omega
        obtain ⟨b1, off1, rfl, hS1, c0, c1⟩ := (ha.below hS hbw).atA i hlt
        obtain ⟨b2, off2, rfl, hS2, d0, d1⟩ := (hb.below hS hbw).atA i hlt2
        have hsd := sameA_drop a b i hlt hlt2
        generalize a[i].name = n1 at *
        generalize a[i].value = x1 at *
        generalize b[i].name = n2 at *
        generalize b[i].value = x2 at *
        replace hsd := Lib.hid hsd
        have q1 : M3.eqB n1 n2 = (n1.toList == n2.toList) := rfl
        have q2 : M3.eqB x1 x2 = (x1.toList == x2.toList) := rfl
        replace hsd := hsd.out
        cases he1 : (n1.toList == n2.toList)
        · have hsd : M3.sameA (a.drop i) (b.drop i) = false := by rw [hsd, q1, he1]; rfl
          clear q1 q2
          replace hsd := Lib.hid (hv.out.trans hsd)
          clear hv
          go_wp2_with (fail)
          go_region_held3 (fun w' => w'.cell? ⟨b1, off1 + i * 2, none⟩ = some (.string n1) ∧ w'.cell? ⟨b1, off1 + i * 2 + 1, none⟩ = some (.string x1) ∧ w'.cell? ⟨b2, off2 + i * 2, none⟩ = some (.string n2) ∧ w'.cell? ⟨b2, off2 + i * 2 + 1, none⟩ = some (.string x2))
            (first
              | go_keep
              | assumption)
            (first
              | fail)
          go_wp2_with (fail)
          go_ret
          exact ⟨by rw [hsd.out]; rfl, hbw.trans ((Below.refl _ wr).drew.mono (by have := hbw.size; omega))⟩
        · cases he2 : (x1.toList == x2.toList)
          · have hsd : M3.sameA (a.drop i) (b.drop i) = false := by rw [hsd, q1, q2, he1, he2]; rfl
            clear q1 q2
            replace hsd := Lib.hid (hv.out.trans hsd)
            clear hv
            go_wp2_with (fail)
            go_region_held3 (fun w' => w'.cell? ⟨b1, off1 + i * 2, none⟩ = some (.string n1) ∧ w'.cell? ⟨b1, off1 + i * 2 + 1, none⟩ = some (.string x1) ∧ w'.cell? ⟨b2, off2 + i * 2, none⟩ = some (.string n2) ∧ w'.cell? ⟨b2, off2 + i * 2 + 1, none⟩ = some (.string x2))
              (first
                | go_keep
                | assumption)
              (first
                | fail)
            go_wp2_with (fail)
            go_ret
            exact ⟨by rw [hsd.out]; rfl, hbw.trans ((Below.refl _ wr).drew.mono (by have := hbw.size; omega))⟩
          · have hsd : M3.sameA (a.drop i) (b.drop i) = M3.sameA (a.drop (i + 1)) (b.drop (i + 1)) := by rw [hsd, q1, q2, he1, he2]; rfl
            clear q1 q2
            replace hsd := Lib.hid (hv.out.trans hsd)
            clear hv
            go_wp2_with (fail)
            go_region_held3 (fun w' => w'.cell? ⟨b1, off1 + i * 2, none⟩ = some (.string n1) ∧ w'.cell? ⟨b1, off1 + i * 2 + 1, none⟩ = some (.string x1) ∧ w'.cell? ⟨b2, off2 + i * 2, none⟩ = some (.string n2) ∧ w'.cell? ⟨b2, off2 + i * 2 + 1, none⟩ = some (.string x2))
              (first
                | go_keep
                | assumption)
              (first
                | fail)
            go_wp2_with (fail)
            go_roundw
            case rel => exact ⟨i + 1, by omega, by go_num, hsd.out, hbw.trans ((Below.refl _ wr).drew.mono (by have := hbw.size; omega))⟩
            case measure => simp [intOf]; omega
      · obtain rfl : i = a.length := by omega
        have hs : Hid (M3.sameA a b = true) := by
          show _ = _
          rw [hv.out, List.drop_length, hne.out, List.drop_length]; rfl
        clear hv
        go_wp2
        go_ret
        exact ⟨by rw [hs.out]; rfl, hbw⟩
  · have hs : Hid (M3.sameA a b = false) := M3.sameA_len a b hne
    have hz : ((a.length : Int) == (b.length : Int)) = false := by simpa using fun h => hne (by omega)
    go_enter Try.func78, Try.ntmps78
    go_wp2
    go_ret
    exact ⟨by rw [hs.out]; rfl, Below.refl _ _⟩
end Go.Proofs.Ytjelmpajphajfaa

/- Package dom: the same, walked on. -/
namespace Go.Proofs.Ytjelmpajphajfaa
open Go.RowKit

def SamePost (r : Bool) (w : World) (e : Ending) (w' : World) : Prop := e = .returned (.bool r) ∧ Below w.heap.size w w'

set_option maxHeartbeats 4000000 in
set_option maxRecDepth 100000 in
theorem domAlike (S : Nat → Prop) (x y : Nd) (va vk vb vl : Value) (w : World) (hS : ∀ b, S b → b < w.heap.size) (hx : RepV S w x va vk) (hy : RepV S w y vb vl)
    (ih : ∀ W, Below w.heap.size w W → Calls Try.prog 21 #[vk, vl] W (SamePost (M3.sameN x.kids y.kids) W)) :
    Calls Try.prog 51 #[x.val va vk, y.val vb vl] w (SamePost (oneSame x y) w) := by
  obtain ⟨a1, c1, rfl⟩ := hx.at_.slice
  obtain ⟨a2, c2, rfl⟩ := hx.kids.slice
  obtain ⟨a3, c3, rfl⟩ := hy.at_.slice
  obtain ⟨a4, c4, rfl⟩ := hy.kids.slice
  have hsame : oneSame x y = (x.kind == y.kind && (x.name.toList == y.name.toList) && (x.text.toList == y.text.toList) && M3.sameA x.attrs y.attrs && M3.sameN x.kids y.kids) := rfl
  have hB : Below w.heap.size w ((w.alloc (.cells (x.cells (.slice a1 x.attrs.length c1) (.slice a2 x.kids.length c2)).toArray 28)).alloc (.cells (y.cells (.slice a3 y.attrs.length c3) (.slice a4 y.kids.length c4)).toArray 28)) := ((Below.refl _ w).alloc (Nat.le_refl _) _).alloc (by simp) _
  have hq := Lib.hid (fun W (hW : Below w.heap.size w W) => slEqual S x.attrs y.attrs _ _ W (fun b h => by have := hS b h; have := hW.size; omega) (hx.at_.below hS hW) (hy.at_.below hS hW))
  have b0 := (Box.new w 28 (x.cells (.slice a1 x.attrs.length c1) (.slice a2 x.kids.length c2))).alloc (.cells (y.cells (.slice a3 y.attrs.length c3) (.slice a4 y.kids.length c4)).toArray 28)
  have b1 := Box.new (w.alloc (.cells (x.cells (.slice a1 x.attrs.length c1) (.slice a2 x.kids.length c2)).toArray 28)) 28 (y.cells (.slice a3 y.attrs.length c3) (.slice a4 y.kids.length c4))
  simp only [World.size_alloc] at b1
  replace ih := Lib.hid ih
  obtain ⟨r1, hr1⟩ : ∃ r1, M3.sameA x.attrs y.attrs = r1 := ⟨_, rfl⟩
  obtain ⟨r2, hr2⟩ : ∃ r2, M3.sameN x.kids y.kids = r2 := ⟨_, rfl⟩
  rw [hr1] at hsame hq
  rw [hr2] at hsame ih
  clear hr1 hr2
  clear hx hy hS
  cases x with | mk k1 n1 ats1 t1 ks1 =>
  cases y with | mk k2 n2 ats2 t2 ks2 =>
  simp only [Nd.kind, Nd.name, Nd.text, Nd.attrs, Nd.kids, Nd.cells, Nd.val] at *
  cases he1 : (k1 == k2)
  · have hs : Hid (oneSame (.mk k1 n1 ats1 t1 ks1) (.mk k2 n2 ats2 t2 ks2) = false) := by show _ = _; rw [hsame, he1]; rfl
    have he : decide (k1 = k2) = false := by simpa using he1
    clear hsame
    go_enter Try.func51, Try.ntmps51
    go_wp2_with (fail)
    go_ret
    exact ⟨by rw [hs.out]; rfl, hB⟩
  · have he : k1 = k2 := by simpa using he1
    subst he
    cases he2 : (n1.toList == n2.toList)
    · have hs : Hid (oneSame (.mk k1 n1 ats1 t1 ks1) (.mk k1 n2 ats2 t2 ks2) = false) := by show _ = _; rw [hsame, he1, he2]; rfl
      clear hsame
      go_enter Try.func51, Try.ntmps51
      go_wp2_with (fail)
      go_ret
      exact ⟨by rw [hs.out]; rfl, hB⟩
    · cases he3 : (t1.toList == t2.toList)
      · have hs : Hid (oneSame (.mk k1 n1 ats1 t1 ks1) (.mk k1 n2 ats2 t2 ks2) = false) := by show _ = _; rw [hsame, he1, he2, he3]; rfl
        clear hsame
        go_enter Try.func51, Try.ntmps51
        go_wp2_with (fail)
        go_ret
        exact ⟨by rw [hs.out]; rfl, hB⟩
      · rw [he1, he2, he3] at hsame
        replace hsame := Lib.hid hsame
        go_enter Try.func51, Try.ntmps51
        go_wp2_with (fail)
        refine (hq.out _ hB).mono ?_
        rintro e w1 ⟨rfl, hb1⟩
        have e0 := b0.below hb1 b0.lt
        have e1 := b1.below hb1 b1.lt
        have d0 := e0.cell (i := 4) rfl
        have d1 := e1.cell (i := 4) rfl
        have hB1 := hB.trans (hb1.mono (by simp; omega))
        clear b0 b1 e0 e1 hq
        cases r1
        · go_wp2_with (fail)
          go_ret
          exact ⟨by rw [hsame.out]; rfl, hB1⟩
        · go_wp2_with (fail)
          refine (ih.out _ hB1).mono ?_
          rintro e w2 ⟨rfl, hb2⟩
          have hz1 := hB1.size
          go_wp2_with (fail)
          go_ret
          exact ⟨by rw [hsame.out]; cases r2 <;> rfl, hB1.trans (hb2.mono hz1)⟩
end Go.Proofs.Ytjelmpajphajfaa

/- Package dom: Same. -/
namespace Go.Proofs.Ytjelmpajphajfaa
open Go.RowKit

def Alikes (S : Nat → Prop) (a : List Nd) : Prop := ∀ x ∈ a, ∀ (y : Nd) (va vk vb vl : Value) (W : World), (∀ b, S b → b < W.heap.size) → RepV S W x va vk → RepV S W y vb vl → Calls Try.prog 51 #[x.val va vk, y.val vb vl] W (SamePost (oneSame x y) W)

set_option maxHeartbeats 4000000 in
set_option maxRecDepth 100000 in
theorem slEqualFunc (S : Nat → Prop) (a b : List Nd) (va vb : Value) (w : World) (hS : ∀ b, S b → b < w.heap.size) (ha : RepN S w va a) (hb : RepN S w vb b) (hal : Alikes S a) :
    Calls Try.prog 50 #[va, vb, .func (.func 51) #[] #[]] w (SamePost (M3.sameN a b) w) := by
  obtain ⟨a1, cap1, rfl⟩ := ha.slice
  obtain ⟨a2, cap2, rfl⟩ := hb.slice
  obtain ⟨_, hl1, hm1⟩ := ha.len
  obtain ⟨_, hl2, hm2⟩ := hb.len
  replace hal := Lib.hid hal
  by_cases hne : a.length = b.length
  · have hz : ((a.length : Int) == (b.length : Int)) = true := by simp [hne]
    have h0 : Hid (M3.sameN a b = M3.sameN (a.drop 0) (b.drop 0)) := rfl
    replace hne := Lib.hid hne
    go_enter Try.func50, Try.ntmps50
    go_wp2
    go_loopw [17] (fun u17 wr => ∃ i : Nat, i ≤ a.length ∧ u17 = .int .i64 (i : Int) ∧ Hid (M3.sameN a b = M3.sameN (a.drop i) (b.drop i)) ∧ Below w.heap.size w wr) (fun u17 _ => a.length - (intOf u17).toNat)
    case atStart => exact ⟨0, by omega, rfl, h0, Below.refl _ _⟩
    case round =>
      obtain ⟨i, hi, rfl, hv, hbw⟩ := hrel
      clear h0
      have hzw := hbw.size
      by_cases hlt : i < a.length
      · have hlt2 : i < b.length := by have := hne.out; omega
        have hI0 : (0 : Int) ≤ (i : Int) := by omega
        have hI1 : (i : Int) < (a.length : Int) := by omega
        have hI2 : (i : Int) < (b.length : Int) := by omega
        obtain ⟨b1, off1, va, vk, rfl, hS1, c0, c1, c2, c3, c4, hrx⟩ := (ha.below hS hbw).at_ i hlt
        obtain ⟨b2, off2, vb, vl, rfl, hS2, d0, d1, d2, d3, d4, hry⟩ := (hb.below hS hbw).at_ i hlt2
        have hsd := sameN_drop a b i hlt hlt2
        have hax := hal.out a[i] (List.getElem_mem hlt)
        generalize a[i] = x at *
        generalize b[i] = y at *
        obtain ⟨a5, c5, rfl⟩ := hrx.at_.slice
        obtain ⟨a6, c6, rfl⟩ := hrx.kids.slice
        obtain ⟨a7, c7, rfl⟩ := hry.at_.slice
        obtain ⟨a8, c8, rfl⟩ := hry.kids.slice
        have hx1 := (Below.refl wr.heap.size wr).alloc (Nat.le_refl _) (.cells (x.cells (.slice a5 x.attrs.length c5) (.slice a6 x.kids.length c6)).toArray 28)
        have hl2 : b2 < wr.heap.size := by have := hS b2 hS2; omega
        have d0' := (hx1.cell (p := ⟨b2, off2 + i * 5, none⟩) hl2).trans d0
        have d1' := (hx1.cell (p := ⟨b2, off2 + i * 5 + 1, none⟩) hl2).trans d1
        have d2' := (hx1.cell (p := ⟨b2, off2 + i * 5 + 2, none⟩) hl2).trans d2
        have d3' := (hx1.cell (p := ⟨b2, off2 + i * 5 + 3, none⟩) hl2).trans d3
        have d4' := (hx1.cell (p := ⟨b2, off2 + i * 5 + 4, none⟩) hl2).trans d4
        have hB2 := hx1.alloc (by simp) (.cells (y.cells (.slice a7 y.attrs.length c7) (.slice a8 y.kids.length c8)).toArray 28)
        have hcall := Lib.hid (hax y _ _ _ _ ((wr.alloc (.cells (x.cells (.slice a5 x.attrs.length c5) (.slice a6 x.kids.length c6)).toArray 28)).alloc (.cells (y.cells (.slice a7 y.attrs.length c7) (.slice a8 y.kids.length c8)).toArray 28)) (fun b h => by have := hS b h; have := hB2.size; omega) (RepV.below (w := wr) (B := wr.heap.size) hrx (fun b h => by have := hS b h; omega) hB2) (RepV.below (w := wr) (B := wr.heap.size) hry (fun b h => by have := hS b h; omega) hB2))
        replace hsd := Lib.hid (hv.out.trans hsd)
        generalize oneSame x y = r at *
        clear hax hv hrx hry
        go_wp2_with (fail)
        refine hcall.out.mono ?_
        rintro e w2 ⟨rfl, hb2⟩
        have hbr : Below wr.heap.size wr w2 := hB2.trans (hb2.mono (by simp; omega))
        clear c0 c1 c2 c3 c4 d0 d1 d2 d3 d4 d0' d1' d2' d3' d4' hcall
        cases r
        · go_wp2_with (fail)
          go_ret
          exact ⟨by rw [hsd.out]; rfl, hbw.trans (hbr.mono hzw)⟩
        · go_wp2_with (fail)
          go_roundw
          case rel => exact ⟨i + 1, by omega, by go_num, by rw [hsd.out]; rfl, hbw.trans (hbr.mono hzw)⟩
          case measure => simp [intOf]; omega
      · obtain rfl : i = a.length := by omega
        have hs : Hid (M3.sameN a b = true) := by
          show _ = _
          rw [hv.out, List.drop_length, hne.out, List.drop_length]; exact M3.sameN_nil
        clear hv
        go_wp2
        go_ret
        exact ⟨by rw [hs.out]; rfl, hbw⟩
  · have hs : Hid (M3.sameN a b = false) := M3.sameN_len a b hne
    have hz : ((a.length : Int) == (b.length : Int)) = false := by simpa using fun h => hne (by omega)
    go_enter Try.func50, Try.ntmps50
    go_wp2
    go_ret
    exact ⟨by rw [hs.out]; rfl, Below.refl _ _⟩

set_option maxHeartbeats 1000000 in
theorem domSame (wt : Nat) : ∀ (S : Nat → Prop) (a b : List Nd) (va vb : Value) (w : World), M3.weight a < wt → (∀ b, S b → b < w.heap.size) → RepN S w va a → RepN S w vb b → Calls Try.prog 21 #[va, vb] w (SamePost (M3.sameN a b) w) := by
  induction wt with
  | zero => intro S a b va vb w h; omega
  | succ wt ih =>
    intro S a b va vb w hwt hS ha hb
    have hE := Lib.hid (slEqualFunc S a b va vb w hS ha hb (fun x hx y va vk vb vl W hSW hrx hry => domAlike S x y va vk vb vl W hSW hrx hry (fun W2 hW2 => ih S x.kids y.kids vk vl W2 (by have := weight_mem hx; omega) (fun b h => by have := hSW b h; have := hW2.size; omega) (hrx.kids.below hSW hW2) (hry.kids.below hSW hW2))))
    obtain ⟨a1, cap1, rfl⟩ := ha.slice
    obtain ⟨a2, cap2, rfl⟩ := hb.slice
    clear ih
    go_enter Try.func21, Try.ntmps21
    go_wp2_with (fail)
    refine hE.out.mono ?_
    rintro e w1 ⟨rfl, hb1⟩
    go_wp2
    go_ret
    exact ⟨rfl, hb1⟩
end Go.Proofs.Ytjelmpajphajfaa

/- The reference of layer 3: the same. -/
namespace Go.Proofs.Ytjelmpajphajfaa
open Go.RowKit


set_option maxHeartbeats 8000000 in
set_option maxRecDepth 100000 in
theorem ref03Same (wt : Nat) : ∀ (S : Nat → Prop) (a b : List Nd) (va vb : Value) (w : World), M3.weight a < wt → (∀ b, S b → b < w.heap.size) → RepN S w va a → RepN S w vb b → Calls Try.prog 22 #[va, vb] w (SamePost (M3.sameN a b) w) := by
  induction wt with
  | zero => intro S a b va vb w h; omega
  | succ wt ih =>
  intro S a b va vb w hwt hS ha hb
  obtain ⟨a1, cap1, rfl⟩ := ha.slice
  obtain ⟨a2, cap2, rfl⟩ := hb.slice
  obtain ⟨_, hl1, hm1⟩ := ha.len
  obtain ⟨_, hl2, hm2⟩ := hb.len
  replace ih := Lib.hid ih
  by_cases hne : a.length = b.length
  · have hz : ((a.length : Int) == (b.length : Int)) = true := by simp [hne]
    have h0 : Hid (M3.sameN a b = M3.sameN (a.drop 0) (b.drop 0)) := rfl
    replace hne := Lib.hid hne
    go_enter Try.func22, Try.ntmps22
    go_wp2
    go_loopw [5] (fun u5 wr => ∃ i : Nat, i ≤ a.length ∧ u5 = .int .i64 (i : Int) ∧ Hid (M3.sameN a b = M3.sameN (a.drop i) (b.drop i)) ∧ Below w.heap.size w wr) (fun u5 _ => a.length - (intOf u5).toNat)
    case atStart => exact ⟨0, by omega, rfl, h0, Below.refl _ _⟩
    case round =>
      obtain ⟨i, hi, rfl, hv, hbw⟩ := hrel
      clear h0
      have hzw := hbw.size
      by_cases hlt : i < a.length
      · have hlt2 : i < b.length := by have := hne.out; omega
        have hI0 : (0 : Int) ≤ (i : Int) := by omega
        have hI1 : (i : Int) < (a.length : Int) := by omega
        have hI2 : (i : Int) < (b.length : Int) := by omega
        obtain ⟨b1, off1, va, vk, rfl, hS1, c0, c1, c2, c3, c4, hrx⟩ := (ha.below hS hbw).at_ i hlt
        obtain ⟨b2, off2, vb, vl, rfl, hS2, d0, d1, d2, d3, d4, hry⟩ := (hb.below hS hbw).at_ i hlt2
        have hsd := sameN_drop a b i hlt hlt2
        have hwx := weight_mem (List.getElem_mem hlt)
        generalize a[i] = x at *
        generalize b[i] = y at *
        obtain ⟨a5, c5, rfl⟩ := hrx.at_.slice
        obtain ⟨a6, c6, rfl⟩ := hrx.kids.slice
        obtain ⟨a7, c7, rfl⟩ := hry.at_.slice
        obtain ⟨a8, c8, rfl⟩ := hry.kids.slice
        have hx1 := (Below.refl wr.heap.size wr).alloc (Nat.le_refl _) (.cells (x.cells (.slice a5 x.attrs.length c5) (.slice a6 x.kids.length c6)).toArray 28)
        have hl2 : b2 < wr.heap.size := by have := hS b2 hS2; omega
        have d0' := (hx1.cell (p := ⟨b2, off2 + i * 5, none⟩) hl2).trans d0
        have d1' := (hx1.cell (p := ⟨b2, off2 + i * 5 + 1, none⟩) hl2).trans d1
        have d2' := (hx1.cell (p := ⟨b2, off2 + i * 5 + 2, none⟩) hl2).trans d2
        have d3' := (hx1.cell (p := ⟨b2, off2 + i * 5 + 3, none⟩) hl2).trans d3
        have d4' := (hx1.cell (p := ⟨b2, off2 + i * 5 + 4, none⟩) hl2).trans d4
        have hB2 := hx1.alloc (by simp) (.cells (y.cells (.slice a7 y.attrs.length c7) (.slice a8 y.kids.length c8)).toArray 28)
        have b0 := (Box.new wr 28 (x.cells (.slice a5 x.attrs.length c5) (.slice a6 x.kids.length c6))).alloc (.cells (y.cells (.slice a7 y.attrs.length c7) (.slice a8 y.kids.length c8)).toArray 28)
        have b1' := Box.new (wr.alloc (.cells (x.cells (.slice a5 x.attrs.length c5) (.slice a6 x.kids.length c6)).toArray 28)) 28 (y.cells (.slice a7 y.attrs.length c7) (.slice a8 y.kids.length c8))
        simp only [World.size_alloc] at b1'
        have hih := Lib.hid (fun W (hW : Below wr.heap.size wr W) => ih.out S x.kids y.kids (.slice a6 x.kids.length c6) (.slice a8 y.kids.length c8) W (by omega) (fun b h => by have := hS b h; have := hW.size; omega) (RepN.below (w := wr) (B := wr.heap.size) hrx.kids (fun b h => by have := hS b h; omega) hW) (RepN.below (w := wr) (B := wr.heap.size) hry.kids (fun b h => by have := hS b h; omega) hW))
        have hatx := fun W (hW : Below wr.heap.size wr W) => Row.below (w := wr) (B := wr.heap.size) hrx.at_ (fun b h => by have := hS b h; omega) hW
        have haty := fun W (hW : Below wr.heap.size wr W) => Row.below (w := wr) (B := wr.heap.size) hry.at_ (fun b h => by have := hS b h; omega) hW
        replace hsd := hv.out.trans hsd
        clear hv ih hrx hry ha hb
        have hsame : oneSame x y = (x.kind == y.kind && (x.name.toList == y.name.toList) && (x.text.toList == y.text.toList) && M3.sameA x.attrs y.attrs && M3.sameN x.kids y.kids) := rfl
        rw [hsame] at hsd
        clear hsame
        cases x with | mk k1 n1 ats1 t1 ks1 =>
        cases y with | mk k2 n2 ats2 t2 ks2 =>
        simp only [Nd.kind, Nd.name, Nd.text, Nd.attrs, Nd.kids, Nd.cells] at *
        replace hatx := Lib.hid hatx
        replace haty := Lib.hid haty
        cases he1 : (k1 == k2)
        · have hk : ¬ k1 = k2 := by simpa using he1
          replace hsd : Hid (M3.sameN a b = false) := by show _ = _; rw [hsd, he1]; rfl
          go_wp2_with (fail)
          go_ret
          exact ⟨by rw [hsd.out]; rfl, hbw.trans (hB2.mono hzw)⟩
        · obtain rfl : k1 = k2 := by simpa using he1
          cases he2 : (n1.toList == n2.toList)
          · replace hsd : Hid (M3.sameN a b = false) := by show _ = _; rw [hsd, he1, he2]; rfl
            go_wp2_with (fail)
            go_ret
            exact ⟨by rw [hsd.out]; rfl, hbw.trans (hB2.mono hzw)⟩
          · cases he3 : (t1.toList == t2.toList)
            · replace hsd : Hid (M3.sameN a b = false) := by show _ = _; rw [hsd, he1, he2, he3]; rfl
              go_wp2_with (fail)
              go_ret
              exact ⟨by rw [hsd.out]; rfl, hbw.trans (hB2.mono hzw)⟩
            · by_cases hla : ats1.length = ats2.length
              · have hla1 : ((ats1.length : Int) == (ats2.length : Int)) = true := by simp [hla]
                have hla2 : (ats1.length : Int) = (ats2.length : Int) := by omega
                rw [he1, he2, he3] at hsd
                replace hsd := Lib.hid hsd
                replace hla := Lib.hid hla
                clear hla2
                go_wp2_with (fail)
                rw [show ((ats1.length : Int) != (ats2.length : Int)) = false by simp [hla.out]]
                clear hla1
                obtain ⟨wo, rfl⟩ : ∃ wo : World, wo = wr := ⟨_, rfl⟩
                have h1 : Hid (M3.sameA ats1 ats2 = M3.sameA (ats1.drop 0) (ats2.drop 0)) := rfl
                go_loopw [8] (fun u8 wr => ∃ k : Nat, k ≤ ats1.length ∧ u8 = .int .i64 (k : Int) ∧ Hid (M3.sameA ats1 ats2 = M3.sameA (ats1.drop k) (ats2.drop k)) ∧ Below wo.heap.size wo wr ∧ Box wr wo.heap.size 28 [.int .i64 k1, .string n1, .slice a5 ats1.length c5, .string t1, .slice a6 ks1.length c6] ∧ Box wr (wo.heap.size + 1) 28 [.int .i64 k1, .string n2, .slice a7 ats2.length c7, .string t2, .slice a8 ks2.length c8]) (fun u8 _ => ats1.length - (intOf u8).toNat)
                case atStart => exact ⟨0, by omega, rfl, h1, hB2, b0, b1'⟩
                case round =>
                  obtain ⟨k, hk, rfl, hA, hbi, hx8, hy8⟩ := hrel
                  have g1 := hx8.cell (i := 2) rfl
                  have g2 := hy8.cell (i := 2) rfl
                  have g3 := hx8.cell (i := 4) rfl
                  have g4 := hy8.cell (i := 4) rfl
                  clear h1 hB2 b0 b1' d0' d1' d2' d3' d4' c0 c1 c2 c3 c4 d0 d1 d2 d3 d4 hx1
                  by_cases hlk : k < ats1.length
                  · have hlk2 : k < ats2.length := by have := hla.out; omega
                    have hJ0 : (0 : Int) ≤ (k : Int) := by omega
                    have hJ1 : (k : Int) < (ats1.length : Int) := by omega
                    have hJ2 : (k : Int) < (ats2.length : Int) := by omega
                    obtain ⟨_, hl5, hm5⟩ := (hatx.out wr hbi).len
                    have hb63 : Hid (ats1.length ≤ 9223372036854775807) := Nat.le_trans hl5 hm5
                    clear hl5 hm5
                    obtain ⟨b3, off3, rfl, hS3, p0, p1⟩ := (hatx.out wr hbi).atA k hlk
                    obtain ⟨b4, off4, rfl, hS4, p2, p3⟩ := (haty.out wr hbi).atA k hlk2
                    have hsa := sameA_drop ats1 ats2 k hlk hlk2
                    generalize ats1[k].name = m1 at *
                    generalize ats1[k].value = x1 at *
                    generalize ats2[k].name = m2 at *
                    generalize ats2[k].value = x2 at *
                    replace hA := hA.out.trans hsa
                    have q1 : M3.eqB m1 m2 = (m1.toList == m2.toList) := rfl
                    have q2 : M3.eqB x1 x2 = (x1.toList == x2.toList) := rfl
                    clear hsa
                    cases he4 : (m1.toList == m2.toList)
                    · clear q2
                      replace hA : Hid (M3.sameA ats1 ats2 = false) := by show _ = _; rw [hA, q1, he4]; rfl
                      go_wp2_with (fail)
                      go_region_held3 (fun w' => w'.cell? ⟨wo.heap.size, 2, none⟩ = some (.slice (some ⟨b3, off3, none⟩) ats1.length c5) ∧ w'.cell? ⟨wo.heap.size + 1, 2, none⟩ = some (.slice (some ⟨b4, off4, none⟩) ats2.length c7) ∧ w'.cell? ⟨b3, off3 + k * 2, none⟩ = some (.string m1) ∧ w'.cell? ⟨b3, off3 + k * 2 + 1, none⟩ = some (.string x1) ∧ w'.cell? ⟨b4, off4 + k * 2, none⟩ = some (.string m2) ∧ w'.cell? ⟨b4, off4 + k * 2 + 1, none⟩ = some (.string x2))
                        (first
                          | go_keep
                          | assumption)
                        (first
                          | fail)
                      go_wp2_with (fail)
                      go_ret
                      exact ⟨by rw [hsd.out, hA.out]; rfl, hbw.trans ((hbi.trans ((Below.refl _ wr).drew.mono (by have := hbi.size; omega))).mono hzw)⟩
                    · cases he5 : (x1.toList == x2.toList)
                      · replace hA : Hid (M3.sameA ats1 ats2 = false) := by show _ = _; rw [hA, q1, q2, he4, he5]; rfl
                        go_wp2_with (fail)
                        go_region_held3 (fun w' => w'.cell? ⟨wo.heap.size, 2, none⟩ = some (.slice (some ⟨b3, off3, none⟩) ats1.length c5) ∧ w'.cell? ⟨wo.heap.size + 1, 2, none⟩ = some (.slice (some ⟨b4, off4, none⟩) ats2.length c7) ∧ w'.cell? ⟨b3, off3 + k * 2, none⟩ = some (.string m1) ∧ w'.cell? ⟨b3, off3 + k * 2 + 1, none⟩ = some (.string x1) ∧ w'.cell? ⟨b4, off4 + k * 2, none⟩ = some (.string m2) ∧ w'.cell? ⟨b4, off4 + k * 2 + 1, none⟩ = some (.string x2))
                          (first
                            | go_keep
                            | assumption)
                          (first
                            | fail)
                        go_wp2_with (fail)
                        go_ret
                        exact ⟨by rw [hsd.out, hA.out]; rfl, hbw.trans ((hbi.trans ((Below.refl _ wr).drew.mono (by have := hbi.size; omega))).mono hzw)⟩
                      · replace hA : Hid (M3.sameA ats1 ats2 = M3.sameA (ats1.drop (k + 1)) (ats2.drop (k + 1))) := by show _ = _; rw [hA, q1, q2, he4, he5]; rfl
                        go_wp2_with (fail)
                        go_region_held3 (fun w' => w'.cell? ⟨wo.heap.size, 2, none⟩ = some (.slice (some ⟨b3, off3, none⟩) ats1.length c5) ∧ w'.cell? ⟨wo.heap.size + 1, 2, none⟩ = some (.slice (some ⟨b4, off4, none⟩) ats2.length c7) ∧ w'.cell? ⟨b3, off3 + k * 2, none⟩ = some (.string m1) ∧ w'.cell? ⟨b3, off3 + k * 2 + 1, none⟩ = some (.string x1) ∧ w'.cell? ⟨b4, off4 + k * 2, none⟩ = some (.string m2) ∧ w'.cell? ⟨b4, off4 + k * 2 + 1, none⟩ = some (.string x2))
                          (first
                            | go_keep
                            | assumption)
                          (first
                            | fail)
                        go_wp2_with (fail)
                        go_roundw
                        case rel => exact ⟨k + 1, by omega, by rw [IntWalk.wrap64_in _ (by have := hb63.out; omega)]; rfl, hA, hbi.trans ((Below.refl _ wr).drew.mono (by have := hbi.size; omega)), hx8.below ((Below.refl _ wr).drew) hx8.lt, hy8.below ((Below.refl _ wr).drew) hy8.lt⟩
                        case measure => clear hA hsd; rw [IntWalk.wrap64_in _ (by have := hb63.out; omega)]; exact meas_nat hlk
                  · obtain rfl : k = ats1.length := by omega
                    have hs : Hid (M3.sameA ats1 ats2 = true) := by
                      show _ = _
                      rw [hA.out, List.drop_length, hla.out, List.drop_length]; rfl
                    clear hA
                    go_wp2_with (fail)
                    refine (hih.out _ hbi).mono ?_
                    rintro e w9 ⟨rfl, hb9⟩
                    have hzi := hbi.size
                    have hbo : Below wo.heap.size wo w9 := hbi.trans (hb9.mono hzi)
                    generalize M3.sameN ks1 ks2 = r at *
                    cases r
                    · go_wp2_with (fail)
                      go_ret
                      exact ⟨by rw [hsd.out, hs.out]; rfl, hbw.trans (hbo.mono hzw)⟩
                    · go_wp2_with (fail)
                      go_roundw
                      case rel => exact ⟨i + 1, by omega, by go_num, by show _ = _; rw [hsd.out, hs.out]; simp, hbw.trans (hbo.mono hzw)⟩
                      case measure => simp [intOf]; omega
              · have hla1 : ((ats1.length : Int) == (ats2.length : Int)) = false := by simpa using fun h => hla (by omega)
                replace hsd : Hid (M3.sameN a b = false) := by show _ = _; rw [hsd, M3.sameA_len _ _ hla]; simp
                go_wp2_with (fail)
                go_ret
                exact ⟨by rw [hsd.out]; rfl, hbw.trans (hB2.mono hzw)⟩
      · obtain rfl : i = a.length := by omega
        have hs : Hid (M3.sameN a b = true) := by
          show _ = _
          rw [hv.out, List.drop_length, hne.out, List.drop_length]; exact M3.sameN_nil
        clear hv
        go_wp2
        go_ret
        exact ⟨by rw [hs.out]; rfl, hbw⟩
  · have hs : Hid (M3.sameN a b = false) := M3.sameN_len a b hne
    have hz : ((a.length : Int) == (b.length : Int)) = false := by simpa using fun h => hne (by omega)
    go_enter Try.func22, Try.ntmps22
    go_wp2
    go_ret
    exact ⟨by rw [hs.out]; rfl, Below.refl _ _⟩
end Go.Proofs.Ytjelmpajphajfaa

/- Layer 3: few nodes are few, and light. -/
namespace Go.Proofs.Ytjelmpajphajfaa
open Go.RowKit

theorem few_size (s : ByteArray) : (M3.few s).size ≤ 30 := by
  unfold M3.few
  split
  · simp [ByteArray.size_extract]; omega
  · omega
theorem cut_weight (l : List Nd) (m : Nat) : M3.weight (M3.cut l m).1 + 6 * (M3.cut l m).2 ≤ 6 * m := by
  induction l using Nd.ind generalizing m with
  | h0 => rw [M3.cut_nil, M3.weight_nil]; simp
  | h1 k n a t ks r ih1 ih2 =>
    cases m with
    | zero => rw [M3.cut_zero, M3.weight_nil]; simp
    | succ m =>
      rw [M3.cut_cons, M3.weight_cons]
      have h1 := ih1 m
      have h2 := ih2 (M3.cut ks m).2
      simp only [Nd.kids, Nd.attrs]
      have h3 : ((a.take 5).map M3.fewA).length ≤ 5 := by simp; omega
      omega
theorem fewN_weight (l : List Nd) : M3.weight (fewN l) ≤ 240 := by
  have := cut_weight l 40
  unfold fewN
  omega
theorem cut_fit (l : List Nd) (m : Nat) (hm : m ≤ 1000) : FitN (M3.cut l m).1 := by
  induction l using Nd.ind generalizing m with
  | h0 => rw [M3.cut_nil]; exact fitN_nil
  | h1 k n a t ks r ih1 ih2 =>
    cases m with
    | zero => rw [M3.cut_zero]; exact fitN_nil
    | succ m =>
      rw [M3.cut_cons]
      have h1 := cut_weight ks m
      have h3 : ((a.take 5).map M3.fewA).length ≤ 5 := by simp; omega
      refine fitN_cons.2 ⟨⟨Nat.le_trans (few_size _) (by omega), Nat.le_trans (few_size _) (by omega), ?_, ?_⟩, ih1 m (by omega), ih2 _ (by have := M3.cut_le ks m; simp only [Nd.kids]; omega)⟩
      · intro b hb
        simp only [Nd.attrs] at hb
        obtain ⟨c, _, rfl⟩ := List.mem_map.1 hb
        exact ⟨Nat.le_trans (few_size _) (by omega), Nat.le_trans (few_size _) (by omega)⟩
      · simp only [Nd.attrs, Nd.kids]
        omega
theorem fewN_fit (l : List Nd) : FitN (fewN l) := cut_fit l 40 (by omega)
theorem fitN_append {a b : List Nd} : FitN (a ++ b) ↔ FitN a ∧ FitN b := by
  induction a with
  | nil => simp [fitN_nil]
  | cons x r ih => rw [List.cons_append, fitN_cons, fitN_cons, ih]; simp [and_assoc]
theorem fitN_take {l : List Nd} (h : FitN l) (k : Nat) : FitN (l.take k) := (fitN_append.1 (by rw [List.take_append_drop]; exact h : FitN (l.take k ++ l.drop k))).1
theorem fitN_drop {l : List Nd} (h : FitN l) (k : Nat) : FitN (l.drop k) := (fitN_append.1 (by rw [List.take_append_drop]; exact h : FitN (l.take k ++ l.drop k))).2
end Go.Proofs.Ytjelmpajphajfaa

/- Layer 3: merged nodes are the document's, and merged again the same. -/
namespace Go.Proofs.Ytjelmpajphajfaa
open Go.RowKit

theorem weight_push (out : List Nd) (x : Nd) : M3.weight (M3.push out x) ≤ M3.weight out + M3.weight [x] := by
  cases h : M3.bareB x
  · rcases List.eq_nil_or_concat out with rfl | ⟨o, y, rfl⟩
    · rw [M3.push_none h]; omega
    · rw [List.concat_eq_append, M3.push_snoc h]
      split
      · rw [M3.weight_append, M3.weight_append]
        have : M3.weight [M3.withText y (M3.cat y.text x.text)] = M3.weight [y] := by
          rw [M3.weight_cons, M3.weight_cons, M3.withText_attrs, M3.withText_kids]
        omega
      · rw [M3.weight_append]; omega
  · rw [M3.push_bare h]; omega
theorem weight_merge (l : List Nd) : M3.weight (M3.merge l) ≤ M3.weight l := by
  have key : ∀ (l out : List Nd), M3.weight (l.foldl M3.push out) ≤ M3.weight out + M3.weight l := by
    intro l
    induction l with
    | nil => intro out; rw [M3.weight_nil]; exact Nat.le_refl _
    | cons x r ih =>
      intro out
      have h1 := ih (M3.push out x)
      have h2 := weight_push out x
      have h3 : M3.weight (x :: r) = M3.weight [x] + M3.weight r := by rw [← List.singleton_append, M3.weight_append]
      rw [List.foldl_cons, h3]
      omega
  have := key l []
  rw [M3.weight_nil] at this
  simpa [M3.merge] using this
theorem txtN_push (out : List Nd) (x : Nd) : txtN (M3.push out x) ≤ txtN out + x.text.size := by
  cases h : M3.bareB x
  · rcases List.eq_nil_or_concat out with rfl | ⟨o, y, rfl⟩
    · rw [M3.push_none h, txtN_cons]; exact Nat.le_of_eq (by rw [Nat.add_comm])
    · rw [List.concat_eq_append, M3.push_snoc h]
      split
      · rw [txtN_append, txtN_append, txtN_cons, txtN_cons, M3.withText_text, cat_size]
        have : txtN [] = 0 := rfl
        omega
      · rw [txtN_append, txtN_cons]
        have : txtN [] = 0 := rfl
        omega
  · rw [M3.push_bare h]; omega
theorem txtN_merge (l : List Nd) : txtN (M3.merge l) ≤ txtN l := by
  have key : ∀ (l out : List Nd), txtN (l.foldl M3.push out) ≤ txtN out + txtN l := by
    intro l
    induction l with
    | nil => intro out; exact Nat.le_add_right _ _
    | cons x r ih =>
      intro out
      have h1 := ih (M3.push out x)
      have h2 := txtN_push out x
      rw [List.foldl_cons, txtN_cons]
      omega
  have := key l []
  have h0 : txtN ([] : List Nd) = 0 := rfl
  rw [h0] at this
  simpa [M3.merge] using this
theorem txtN_fit (l : List Nd) (b : Nat) (h : ∀ x ∈ l, x.text.size ≤ b) : txtN l ≤ l.length * b := by
  induction l with
  | nil => exact Nat.zero_le _
  | cons x r ih =>
    rw [txtN_cons, List.length_cons, Nat.add_mul]
    have h1 := h x (by simp)
    have h2 := ih (fun y hy => h y (by simp [hy]))
    omega
theorem cut_text (l : List Nd) (m : Nat) : ∀ x ∈ (M3.cut l m).1, x.text.size ≤ 30 := by
  induction l generalizing m with
  | nil => intro x hx; rw [M3.cut_nil] at hx; cases hx
  | cons y r ih =>
    intro x hx
    cases m with
    | zero => rw [M3.cut_zero] at hx; cases hx
    | succ m =>
      rw [M3.cut_cons] at hx
      rcases List.mem_cons.1 hx with rfl | hx
      · exact few_size _
      · exact ih _ x hx
theorem fewN_txt (l : List Nd) : txtN (fewN l) ≤ 7200 := by
  have h1 := txtN_fit (fewN l) 30 (cut_text l 40)
  have h2 := M3.length_le_weight (fewN l)
  have h3 := fewN_weight l
  omega

/-- Nodes that a call hands back, wherever they stand. -/
def RepPost (l : List Nd) (w : World) (e : Ending) (w' : World) : Prop := ∃ v', e = .returned v' ∧ RepN (fun b => b < w'.heap.size) w' v' l ∧ Below w.heap.size w w'
theorem ref03Merge (S : Nat → Prop) (v : Value) (l : List Nd) (w : World) (hS : ∀ b, S b → b < w.heap.size) (hr : RepN S w v l) (hl : l.length ≤ 1000000) (ht : txtN l ≤ 1073741824) :
    Calls Try.prog 28 #[v] w (RepPost (M3.merge l) w) := by
  obtain ⟨xs, hrow, hrc⟩ := hr
  obtain ⟨L, rfl, rfl, hL⟩ := RepC.nv _ _ hrc
  rw [List.length_map] at hrow hl
  refine (ref03MergeV S v L w hS hrow (fun b hb => (hL b hb).ok) hl (by rw [txtV_map]; exact ht)).mono ?_
  rintro e w1 ⟨v1, rfl, hown, hb⟩
  refine ⟨v1, rfl, ?_, hb⟩
  rw [← mergeV_map]
  refine ⟨cellsV (mergeV L), by rw [List.length_map]; exact Row.own hown (fun g hg => (hown.lt g hg).2), RepC.of_nv ?_⟩
  have hP : ∀ b ∈ mergeV L, RepV (fun b => b < w1.heap.size) w1 b.x b.va b.vk := by
    have key : ∀ (l out : List NV), (∀ b ∈ l, RepV S w b.x b.va b.vk) → (∀ b ∈ out, RepV S w b.x b.va b.vk) → ∀ b ∈ l.foldl pushV out, RepV S w b.x b.va b.vk := by
      intro l
      induction l with
      | nil => intro out _ ho; exact ho
      | cons x r ih =>
        intro out hl ho
        rw [List.foldl_cons]
        refine ih _ (fun z hz => hl z (by simp [hz])) ?_
        have hx := hl x (by simp)
        cases hb : bareV x
        · rcases List.eq_nil_or_concat out with rfl | ⟨o, y, rfl⟩
          · rw [pushV_nil hb]; simpa using hx
          · rw [List.concat_eq_append] at ho ⊢
            rw [pushV_snoc hb]
            have hy := ho y (by simp)
            split
            · intro z hz
              rcases List.mem_append.1 hz with hz | hz
              · exact ho z (by simp [hz])
              · simp at hz; subst hz
                exact ⟨by show Row _ _ _ _ (M3.withText y.x _).attrs.length (cellsA (M3.withText y.x _).attrs); rw [M3.withText_attrs]; exact hy.1, by show RepN _ _ _ (M3.withText y.x _).kids; rw [M3.withText_kids]; exact hy.2⟩
            · intro z hz
              rcases List.mem_append.1 hz with hz | hz
              · exact ho z hz
              · simp at hz; subst hz; exact hx
        · rw [pushV_bare hb]; exact ho
    exact fun b hb' => ((key L [] hL (fun b h => by cases h) b hb').below hS hb).mono (fun c hc => by have := hS c hc; have := hb.size; omega)
  exact hP

set_option maxHeartbeats 2000000 in
set_option maxRecDepth 100000 in
theorem law03DomMerges (S : Nat → Prop) (v : Value) (l : List Nd) (w : World) (hS : ∀ b, S b → b < w.heap.size) (hr : RepN S w v l) (hsz : SzN l) :
    Calls Try.prog 5 #[v] w fun e w' => e = .returned (.bool true) ∧ Below w.heap.size w w' := by
  have hF := Lib.hid (ref03Few S v l w hS hr hsz)
  have hfit := Lib.hid (fewN_fit l)
  have hwt := fewN_weight l
  have htx := fewN_txt l
  obtain ⟨a, cap, rfl⟩ := hr.slice
  clear hr hsz hS
  go_enter Try.func5, Try.ntmps5
  go_wp2_with (fail)
  refine hF.out.mono ?_
  rintro e w1 ⟨v1, rfl, hm, hb1⟩
  have hrep := hm.rep
  generalize fewN l = L at *
  clear hF hm
  have hz1 := hb1.size
  have hL := M3.length_le_weight L
  have hM := Lib.hid (domMerge _ v1 L w1 (fun b h => h.2) hrep (by omega) (by omega))
  obtain ⟨a1, c1, rfl⟩ := hrep.slice
  replace hrep := Lib.hid hrep
  go_wp2_with (fail)
  refine hM.out.mono ?_
  rintro e w2 ⟨v2, rfl, hfr, hb2⟩
  have hrm := hfr.rep
  have hz2 := hb2.size
  have hwm := weight_merge L
  have htm := txtN_merge L
  have hmm := Lib.hid (M3.merge_merge L)
  have hR := Lib.hid (ref03Merge _ _ L w2 (fun b h => by have := h.2; omega) (hrep.out.below (fun b h => h.2) hb2) (by omega) (by omega))
  have hsn := Lib.hid (M3.sameN_self (M3.merge L))
  generalize M3.merge L = M at *
  obtain ⟨a2, c2, rfl⟩ := hrm.slice
  clear hM hfr
  replace hrm := Lib.hid hrm
  go_wp2_with (fail)
  refine hR.out.mono ?_
  rintro e w3 ⟨v3, rfl, hr3, hb3⟩
  have hz3 := hb3.size
  have hrm3 := hrm.out.below (fun b h => h.2) hb3
  have hSm := Lib.hid (ref03Same (M3.weight M + 1) (fun b => b < w3.heap.size) M M _ v3 w3 (by omega) (fun b h => h) (hrm3.mono (fun b h => by have := h.2; omega)) hr3)
  obtain ⟨a3, c3, rfl⟩ := hr3.slice
  clear hR hr3 hrm3
  rw [hsn.out] at hSm
  go_wp2_with (fail)
  refine hSm.out.mono ?_
  rintro e w4 ⟨rfl, hb4⟩
  have hz4 := hb4.size
  have hb24 : Below w2.heap.size w2 w4 := hb3.trans (hb4.mono hz3)
  have hrm4 := hrm.out.below (fun b h => h.2) hb24
  have hM4 := Lib.hid (domMerge _ _ M w4 (fun b h => by have := h.2; omega) hrm4 (by omega) (by omega))
  clear hSm hrm4
  go_wp2_with (fail)
  refine hM4.out.mono ?_
  rintro e w5 ⟨v5, rfl, hf5, hb5⟩
  have hz5 := hb5.size
  have hb25 : Below w2.heap.size w2 w5 := hb24.trans (hb5.mono (by omega))
  have hrm5 := hrm.out.below (fun b h => h.2) hb25
  rw [hmm.out] at hf5
  have hr5 := hf5.rep
  have hSm5 := Lib.hid (domSame (M3.weight M + 1) (fun b => b < w5.heap.size) M M v5 _ w5 (by omega) (fun b h => h) (hr5.mono (fun b h => h.2)) (hrm5.mono (fun b h => by have := h.2; omega)))
  obtain ⟨a5, c5, rfl⟩ := hr5.slice
  rw [hsn.out] at hSm5
  clear hM4 hf5 hr5 hrm5
  go_wp2_with (fail)
  refine hSm5.out.mono ?_
  rintro e w6 ⟨rfl, hb6⟩
  go_wp2_with (fail)
  refine (lives03 _).mono ?_
  rintro e w7 ⟨rfl, hb7⟩
  have hbb : Below w.heap.size w w7 := (((hb1.trans (hb2.mono hz1)).trans (hb25.mono (by omega))).trans (hb6.mono (by omega))).trans (hb7.mono (by have := hb6.size; omega))
  go_wp2
  go_ret
  exact ⟨rfl, hbb⟩
end Go.Proofs.Ytjelmpajphajfaa

/- The reference of layer 3: which nodes may be. -/
namespace Go.Proofs.Ytjelmpajphajfaa
open Go.RowKit

def seenA (ats : List Att) (i : Nat) : List ByteArray := (ats.take i).map Att.name
theorem seenA_len (ats : List Att) (i : Nat) (h : i ≤ ats.length) : (seenA ats i).length = i := by simp [seenA]; omega
theorem seenA_get (ats : List Att) (i k : Nat) (hk : k < i) (hi : i ≤ ats.length) : (seenA ats i)[k]? = some ats[k].name := by
  unfold seenA
  rw [List.getElem?_map, List.getElem?_take, if_pos hk, List.getElem?_eq_getElem (by omega)]
  rfl
theorem names_at' (ats : List Att) (i : Nat) (h : i < ats.length) : M3.namesE (seenA ats i) (ats.drop i) = if M3.attributedB ats[i].name.data.toList then (if (seenA ats i).any (M3.eqB ats[i].name) then 5 else M3.namesE (seenA ats (i + 1)) (ats.drop (i + 1))) else 4 := by
  have htk : seenA ats (i + 1) = seenA ats i ++ [ats[i].name] := by
    unfold seenA
    rw [List.take_succ_eq_append_getElem h, List.map_append]; rfl
  rw [List.drop_eq_getElem_cons h, M3.namesE, htk]
theorem values_at (ats : List Att) (i : Nat) (h : i < ats.length) : M3.valuesE (ats.drop i) = if M1.isB ats[i].value.data.toList then M3.valuesE (ats.drop (i + 1)) else 2 := by
  rw [List.drop_eq_getElem_cons h, M3.valuesE]
theorem any_at {l : List ByteArray} {p : ByteArray → Bool} {k : Nat} {s : ByteArray} (h : l[k]? = some s) (hp : p s = true) : l.any p = true :=
  List.any_eq_true.2 ⟨s, List.mem_of_getElem? h, hp⟩
theorem eqB_comm (s t : ByteArray) : M3.eqB s t = (t.toList == s.toList) := by
  unfold M3.eqB
  rw [Bool.eq_iff_iff, beq_iff_eq, beq_iff_eq]
  exact eq_comm

def IntPost (n : Int) (w : World) (e : Ending) (w' : World) : Prop := e = .returned (.int .i64 n) ∧ Below w.heap.size w w'

set_option maxHeartbeats 8000000 in
set_option maxRecDepth 100000 in
theorem ref03Element (S : Nat → Prop) (x : Nd) (va vk : Value) (w : World) (hS : ∀ b, S b → b < w.heap.size) (hx : RepV S w x va vk) (hf : Fit1 x) :
    Calls Try.prog 73 #[x.val va vk] w (IntPost (M3.elemE x) w) := by
  obtain ⟨hat, hkd⟩ := hx
  obtain ⟨a, cap, rfl⟩ := hat.slice
  obtain ⟨_, hlc, hcm⟩ := hat.len
  obtain ⟨a2, cap2, rfl⟩ := hkd.slice
  cases x with | mk k n ats t ks =>
  obtain ⟨hf1, hf2, hf3, _⟩ := hf
  simp only [Nd.val, Nd.kind, Nd.name, Nd.text, Nd.attrs, Nd.kids] at *
  have hb0 := (Below.refl w.heap.size w).alloc (Nat.le_refl _) (.cells #[.int .i64 k, .string n, .slice a ats.length cap, .string t, .slice a2 ks.length cap2] 28)
  have hbx0 := Box.new w 28 [.int .i64 k, .string n, .slice a ats.length cap, .string t, .slice a2 ks.length cap2]
  have hNa := Lib.hid (fun W => ref03Named n W (by omega))
  have hr : M3.elemE (.mk k n ats t ks) = if t.toList.isEmpty then (if M3.namedB n.data.toList then (if M3.namesE [] ats = 0 then M3.valuesE ats else M3.namesE [] ats) else 4) else 7 := rfl
  generalize M3.namedB n.data.toList = p at *
  cases hte : t.toList.isEmpty
  · rw [hte] at hr
    replace hr : Hid (M3.elemE (.mk k n ats t ks) = 7) := hr
    go_enter Try.func73, Try.ntmps73
    go_wp2_with fail
    refine (hNa.out _).mono ?_
    rintro e w1 ⟨rfl, rfl⟩
    go_wp2
    go_ret
    exact ⟨by rw [hr.out]; rfl, hb0⟩
  rw [hte] at hr
  cases p
  · replace hr : Hid (M3.elemE (.mk k n ats t ks) = 4) := hr
    go_enter Try.func73, Try.ntmps73
    go_wp2_with fail
    refine (hNa.out _).mono ?_
    rintro e w1 ⟨rfl, rfl⟩
    go_wp2
    go_ret
    exact ⟨by rw [hr.out]; rfl, hb0⟩
  replace hr : Hid (M3.elemE (.mk k n ats t ks) = if M3.namesE [] ats = 0 then M3.valuesE ats else M3.namesE [] ats) := hr
  have hz0 : w.heap.size < (w.alloc (.cells #[.int .i64 k, .string n, .slice a ats.length cap, .string t, .slice a2 ks.length cap2] 28)).heap.size := by simp
  have hn0 : Hid (M3.namesE [] ats = M3.namesE (seenA ats 0) (ats.drop 0)) := rfl
  replace hf3 := Lib.hid hf3
  go_enter Try.func73, Try.ntmps73
  go_wp2_with fail
  refine (hNa.out _).mono ?_
  rintro e w1 ⟨rfl, rfl⟩
  go_wp2_with fail
  go_loopw [4, 5, 6] (fun u4 _ _ wr => ∃ i : Nat, i ≤ ats.length ∧ u4 = .int .i64 (i : Int) ∧ Hid (M3.namesE [] ats = M3.namesE (seenA ats i) (ats.drop i)) ∧ Below w.heap.size w wr ∧ Box wr w.heap.size 28 [.int .i64 k, .string n, .slice a ats.length cap, .string t, .slice a2 ks.length cap2]) (fun u4 _ _ _ => ats.length - (intOf u4).toNat)
  case atStart => exact ⟨0, by omega, rfl, hn0, hb0, hbx0⟩
  case round =>
    obtain ⟨i, hi, rfl, hv, hb, hbx⟩ := hrel
    clear hn0 hbx0 hb0 hz0 hNa
    have hz := hbx.lt
    have q2 := hbx.cell (i := 2) rfl
    by_cases hlt : i < ats.length
    · obtain ⟨b, off, rfl, hSb, c0, c1⟩ := (hat.below hS hb).atA i hlt
      have hbl := hS b hSb
      have hna := names_at' ats i hlt
      have hfa := (hf3.out _ (List.getElem_mem hlt)).1
      have hget := Lib.hid (fun k (hk : k < i) => seenA_get ats i k hk hi)
      have hA := Lib.hid (fun W => ref03Attributed ats[i].name W hfa)
      have hsl := seenA_len ats i hi
      generalize hnm : ats[i].name = nm at *
      generalize M3.attributedB nm.data.toList = p at *
      replace hna := hv.out.trans hna
      have hI0 : (0 : Int) ≤ (i : Int) := by omega
      have hI1 : (i : Int) < (ats.length : Int) := by omega
      obtain ⟨wo, rfl⟩ : ∃ wo : World, wo = wr := ⟨_, rfl⟩
      replace hsl := Lib.hid hsl
      replace hnm := Lib.hid hnm
      cases p
      · replace hna : Hid (M3.namesE [] ats = 4) := hna
        rw [hna.out] at hr
        replace hr : Hid (M3.elemE (.mk k n ats t ks) = 4) := hr
        go_wp2_with fail
        refine (hA.out _).mono ?_
        rintro e w2 ⟨rfl, hb2⟩
        go_wp2
        go_ret
        exact ⟨by rw [hr.out]; rfl, hb.trans (hb2.mono (by omega))⟩
      · replace hna : Hid (M3.namesE [] ats = if (seenA ats i).any (M3.eqB nm) then 5 else M3.namesE (seenA ats (i + 1)) (ats.drop (i + 1))) := hna
        clear hv
        go_wp2_with fail
        refine (hA.out _).mono ?_
        rintro e w2 ⟨rfl, hb2⟩
        have hbx2 := hbx.below hb2 hz
        have c0' := (hb2.cell (p := ⟨b, off + i * 2, none⟩) (by simp; omega)).trans c0
        have hb02 : Below w.heap.size w w2 := hb.trans (hb2.mono (by omega))
        clear hA hbx q2 c0 c1
        go_wp2_with fail
        go_loopw [6] (fun u6 wr => ∃ j : Nat, j ≤ i ∧ u6 = .int .i64 (j : Int) ∧ Hid (∀ k' (s : ByteArray), k' < j → (seenA ats i)[k']? = some s → M3.eqB nm s = false) ∧ Below w2.heap.size w2 wr) (fun u6 _ => i - (intOf u6).toNat)
        case atStart => exact ⟨0, by omega, rfl, Lib.hid (fun k' s h => absurd h (by omega)), Below.refl _ _⟩
        case round =>
          obtain ⟨j, hj, rfl, hno, hbj⟩ := hrel
          have hbx3 := hbx2.below hbj hbx2.lt
          have q3 := hbx3.cell (i := 2) rfl
          have hb03 : Below w.heap.size w wr := hb02.trans (hbj.mono (by have := hb02.size; omega))
          have hz2 := hb02.size
          by_cases hji : j < i
          · obtain ⟨b', off', e0, hSb', d0, d1⟩ := (hat.below hS hb03).atA j (by omega)
            cases e0
            have c0'' := (hbj.cell (p := ⟨b, off + i * 2, none⟩) (by simp; omega)).trans c0'
            have hgj := hget.out j hji
            have hJ0 : (0 : Int) ≤ (j : Int) := by omega
            have hJ1 : (j : Int) < (ats.length : Int) := by omega
            generalize ats[j].name = nj at *
            replace hgj := Lib.hid hgj
            have heq := eqB_comm nm nj
            have hbd : Below w.heap.size w wr.drew := hb03.drew
            cases hc : (nj.toList == nm.toList)
            · rw [hc] at heq
              replace heq := Lib.hid heq
              go_wp2_with fail
              go_region_held3 (fun w' => w'.cell? ⟨w.heap.size, 2, none⟩ = some (.slice (some ⟨b, off, none⟩) ats.length cap) ∧ w'.cell? ⟨b, off + i * 2, none⟩ = some (.string nm) ∧ w'.cell? ⟨b, off + j * 2, none⟩ = some (.string nj))
                (first
                  | go_keep
                  | assumption)
                (first
                  | fail)
              go_wp2_with fail
              go_roundw
              case rel =>
                refine ⟨j + 1, by omega, by go_num, Lib.hid (fun k' s h1 h2 => ?_), hbj.drew⟩
                by_cases e : k' = j
                · subst e
                  rw [hgj.out] at h2
                  cases h2
                  exact heq.out
                · exact hno.out k' s (by omega) h2
              case measure => exact meas_nat hji
            · rw [hc] at heq
              have hany := any_at (p := M3.eqB nm) hgj.out heq
              rw [hany] at hna
              replace hna : Hid (M3.namesE [] ats = 5) := hna
              rw [hna.out] at hr
              replace hr : Hid (M3.elemE (.mk k n ats t ks) = 5) := hr
              replace heq := Lib.hid heq
              clear hany
              go_wp2_with fail
              go_region_held3 (fun w' => w'.cell? ⟨w.heap.size, 2, none⟩ = some (.slice (some ⟨b, off, none⟩) ats.length cap) ∧ w'.cell? ⟨b, off + i * 2, none⟩ = some (.string nm) ∧ w'.cell? ⟨b, off + j * 2, none⟩ = some (.string nj))
                (first
                  | go_keep
                  | assumption)
                (first
                  | fail)
              go_wp2_with fail
              go_ret
              exact ⟨by rw [hr.out]; rfl, hbd⟩
          · obtain rfl : j = i := by omega
            have hany : (seenA ats j).any (M3.eqB nm) = false := by
              rw [List.any_eq_false]
              intro s hs
              obtain ⟨k', hk', e⟩ := List.mem_iff_getElem.1 hs
              rw [hsl.out] at hk'
              have := hno.out k' s hk' (by rw [List.getElem?_eq_getElem (by rw [hsl.out]; exact hk'), e])
              simpa using this
            rw [hany] at hna
            replace hna : Hid (M3.namesE [] ats = M3.namesE (seenA ats (j + 1)) (ats.drop (j + 1))) := hna
            clear hany hno
            go_wp2_with fail
            go_roundw
            case rel => exact ⟨j + 1, by omega, by go_num, hna, hb03, hbx3⟩
            case measure => exact meas_nat hlt
    · obtain rfl : i = ats.length := by omega
      have hv0 : M3.namesE [] ats = 0 := by rw [hv.out, List.drop_length]; rfl
      rw [hv0, if_pos rfl] at hr
      have hvv : Hid (M3.valuesE ats = M3.valuesE (ats.drop 0)) := rfl
      clear hv hv0
      obtain ⟨wo, rfl⟩ : ∃ wo : World, wo = wr := ⟨_, rfl⟩
      go_wp2_with fail
      go_loopw [7, 8] (fun u7 _ wr => ∃ i : Nat, i ≤ ats.length ∧ u7 = .int .i64 (i : Int) ∧ Hid (M3.valuesE ats = M3.valuesE (ats.drop i)) ∧ Below w.heap.size w wr ∧ Box wr w.heap.size 28 [.int .i64 k, .string n, .slice a ats.length cap, .string t, .slice a2 ks.length cap2]) (fun u7 _ _ => ats.length - (intOf u7).toNat)
      case atStart => exact ⟨0, by omega, rfl, hvv, hb, hbx⟩
      case round =>
        obtain ⟨i, hi, rfl, hv, hb, hbx⟩ := hrel
        clear hvv
        have hz := hbx.lt
        have q2 := hbx.cell (i := 2) rfl
        by_cases hlt : i < ats.length
        · obtain ⟨b, off, rfl, hSb, c0, c1⟩ := (hat.below hS hb).atA i hlt
          have hva := hv.out.trans (values_at ats i hlt)
          have hfa := (hf3.out _ (List.getElem_mem hlt)).2
          have hA := Lib.hid (fun W => ref01Is ats[i].value W hfa)
          generalize ats[i].value = vl at *
          generalize M1.isB vl.data.toList = p at *
          have hI0 : (0 : Int) ≤ (i : Int) := by omega
          have hI1 : (i : Int) < (ats.length : Int) := by omega
          clear hv
          cases p
          · replace hva : Hid (M3.valuesE ats = 2) := hva
            go_wp2_with fail
            refine (hA.out _).mono ?_
            rintro e w2 ⟨rfl, hb2⟩
            go_wp2
            go_ret
            exact ⟨by rw [hr.out, hva.out]; rfl, hb.trans (hb2.mono (by omega))⟩
          · replace hva : Hid (M3.valuesE ats = M3.valuesE (ats.drop (i + 1))) := hva
            go_wp2_with fail
            refine (hA.out _).mono ?_
            rintro e w2 ⟨rfl, hb2⟩
            have hbx2 := hbx.below hb2 hz
            clear hA
            go_wp2_with fail
            go_roundw
            case rel => exact ⟨i + 1, by omega, by go_num, hva, hb.trans (hb2.mono (by omega)), hbx2⟩
            case measure => exact meas_nat hlt
        · obtain rfl : i = ats.length := by omega
          have hv0 : Hid (M3.valuesE ats = 0) := by show _ = _; rw [hv.out, List.drop_length]; rfl
          clear hv
          go_wp2_with fail
          go_ret
          exact ⟨by rw [hr.out, hv0.out]; rfl, hb⟩
end Go.Proofs.Ytjelmpajphajfaa

/- The reference of layer 3: which nodes may be, walked on. -/
namespace Go.Proofs.Ytjelmpajphajfaa
open Go.RowKit

set_option maxHeartbeats 8000000 in
set_option maxRecDepth 100000 in
theorem ref03One (S : Nat → Prop) (x : Nd) (va vk : Value) (p : Bool) (w : World) (hS : ∀ b, S b → b < w.heap.size) (hx : RepV S w x va vk) (hf : Fit1 x) :
    Calls Try.prog 45 #[x.val va vk, .bool p] w (IntPost (M3.oneE x p) w) := by
  have hE := Lib.hid (fun W h1 h2 => ref03Element S x va vk W h1 h2 hf)
  obtain ⟨hat, hkd⟩ := hx
  have hx0 : RepV S w x va vk := ⟨hat, hkd⟩
  obtain ⟨a, cap, rfl⟩ := hat.slice
  obtain ⟨a2, cap2, rfl⟩ := hkd.slice
  cases x with | mk k n ats t ks =>
  obtain ⟨hf1, hf2, hf3, _⟩ := hf
  simp only [Nd.val, Nd.kind, Nd.name, Nd.text, Nd.attrs, Nd.kids] at *
  have hb0 := (Below.refl w.heap.size w).alloc (Nat.le_refl _) (.cells #[.int .i64 k, .string n, .slice a ats.length cap, .string t, .slice a2 ks.length cap2] 28)
  have hbx0 := Box.new w 28 [.int .i64 k, .string n, .slice a ats.length cap, .string t, .slice a2 ks.length cap2]
  have hxb := Lib.hid (hx0.below hS hb0)
  have hSb := Lib.hid (show ∀ b, S b → b < (w.alloc (.cells #[.int .i64 k, .string n, .slice a ats.length cap, .string t, .slice a2 ks.length cap2] 28)).heap.size from fun b h => by have := hS b h; simp; omega)
  have hI := Lib.hid (fun W => ref01Is t W hf2)
  have hr : Hid (M3.oneE (.mk k n ats t ks) p = if k = 1 then M3.elemE (.mk k n ats t ks) else if k = 2 then (if (n.toList.isEmpty && ats.isEmpty && ks.isEmpty) then (if M1.isB t.data.toList && !(t.toList.isEmpty || p) then 0 else 2) else 7) else if k = 3 then (if (n.toList.isEmpty && ats.isEmpty && ks.isEmpty) then (if M1.isB t.data.toList then 0 else 2) else 7) else 7) := rfl
  clear hat hkd hx0 hS hf3
  by_cases h1 : k = 1
  · subst h1
    rw [if_pos rfl] at hr
    clear hI
    go_enter Try.func45, Try.ntmps45
    go_wp2_with fail
    refine (hE.out _ hSb.out hxb.out).mono ?_
    rintro e w1 ⟨rfl, hb1⟩
    go_wp2
    go_ret
    exact ⟨by rw [hr.out]; rfl, hb0.trans (hb1.mono (by simp))⟩
  rw [if_neg h1] at hr
  have h1b : (k == 1) = false := by simpa using h1
  clear hE hxb hSb
  by_cases h23 : k = 2 ∨ k = 3
  · generalize M1.isB t.data.toList = q at *
    have seven : (n.toList.isEmpty && ats.isEmpty && ks.isEmpty) = false → Hid (M3.oneE (.mk k n ats t ks) p = 7) := by
      intro h
      show _ = _
      rw [hr.out, h]
      rcases h23 with rfl | rfl <;> simp
    have h2b : (k != 2) = !(k == 2) := rfl
    have h3b : (k != 3) = !(k == 3) := rfl
    cases hne : n.toList.isEmpty
    · have hr2 := seven (by rw [hne]; rfl)
      clear hr seven h2b h3b
      rcases h23 with rfl | rfl
      all_goals
        go_enter Try.func45, Try.ntmps45
        go_wp2
        go_ret
        exact ⟨by rw [hr2.out]; rfl, hb0⟩
    · cases ats with
      | cons a0 r0 =>
        have hr2 := seven (by simp)
        have hl1 : (0 : Int) < ((a0 :: r0).length : Int) := by simp
        generalize (a0 :: r0).length = m at *
        clear hr seven h2b h3b hb0 hbx0
        rcases h23 with rfl | rfl
        all_goals
          go_enter Try.func45, Try.ntmps45
          go_wp2
          go_ret
          exact ⟨by rw [hr2.out]; rfl, (Below.refl _ _).alloc (Nat.le_refl _) _⟩
      | nil =>
        simp only [List.length_nil] at hb0 hbx0
        cases ks with
        | cons a0 r0 =>
          have hr2 := seven (by simp)
          have hl1 : (0 : Int) < ((a0 :: r0).length : Int) := by simp
          generalize (a0 :: r0).length = m at *
          clear hr seven h2b h3b hb0 hbx0
          simp only [List.length_nil]
          rcases h23 with rfl | rfl
          all_goals
            go_enter Try.func45, Try.ntmps45
            go_wp2
            go_ret
            exact ⟨by rw [hr2.out]; rfl, (Below.refl _ _).alloc (Nat.le_refl _) _⟩
        | nil =>
          simp only [List.length_nil] at hb0 hbx0
          simp only [List.length_nil]
          clear seven h2b h3b
          rw [hne] at hr
          rcases h23 with rfl | rfl
          · replace hr : M3.oneE (.mk 2 n [] t []) p = if (q && !(t.toList.isEmpty || p)) then 0 else 2 := hr.out
            cases hte : t.toList.isEmpty <;> cases q <;> cases p
            all_goals
              rw [hte] at hr
              replace hr := Lib.hid hr
              go_enter Try.func45, Try.ntmps45
              go_wp2_with fail
              refine (hI.out _).mono ?_
              rintro e w1 ⟨rfl, hb1⟩
              have hbx1 := hbx0.below hb1 (by simp)
              have c0 := hbx1.cell (i := 0) rfl
              have c3 := hbx1.cell (i := 3) rfl
              go_wp2
              go_ret
              exact ⟨by rw [hr.out]; rfl, hb0.trans (hb1.mono (by simp))⟩
          · replace hr : M3.oneE (.mk 3 n [] t []) p = if q then 0 else 2 := hr.out
            cases q
            all_goals
              replace hr := Lib.hid hr
              go_enter Try.func45, Try.ntmps45
              go_wp2_with fail
              refine (hI.out _).mono ?_
              rintro e w1 ⟨rfl, hb1⟩
              have hbx1 := hbx0.below hb1 (by simp)
              have c0 := hbx1.cell (i := 0) rfl
              have c3 := hbx1.cell (i := 3) rfl
              go_wp2
              go_ret
              exact ⟨by rw [hr.out]; rfl, hb0.trans (hb1.mono (by simp))⟩
  · rw [if_neg (by omega), if_neg (by omega)] at hr
    have h2b : (k != 2) = true := by simp [bne]; omega
    have h3b : (k != 3) = true := by simp [bne]; omega
    clear h1 h23
    go_enter Try.func45, Try.ntmps45
    go_wp2
    go_ret
    exact ⟨by rw [hr.out]; rfl, hb0⟩
end Go.Proofs.Ytjelmpajphajfaa

/- Layer 3: texts side by side are merged, and then may be. -/
namespace Go.Proofs.Ytjelmpajphajfaa
open Go.RowKit Go.ChangeShapes Go.WideShapes

section
variable {H : Type} {enc : TypeId × Value → H} {w : World} {base : Nat} {spare : Nat → Bool} {held : Bool}
theorem open_texts {fuel : Nat} {cs : List Value} {x : DataW H × List MemPlace} (h : DataW.trod enc Try.prog w base spare held fuel 36 cs = some x) :
    ∃ (v : Value) (L : List ByteArray), cs = [v] ∧ Row (fun b => b < w.heap.size) w 1 v L.length (L.flatMap fun s => [.string s]) ∧ ∀ s ∈ L, s.size ≤ 9223372036854775807 :=
  open_rows Try.underlying36 (cell1 9 (Or.inl rfl)) (by decide) h (fun s : ByteArray => [.string s]) (fun _ => rfl) (fun s : ByteArray => s.size ≤ 9223372036854775807) (fun n cs' y _ hl h => by
    obtain ⟨s, e, _, z⟩ := DataW.trod_string Try.underlying9 h
    unfold maxLen at z
    exact ⟨s, e, by omega⟩)
end
theorem Row.atS {S : Nat → Prop} {w : World} {a : Option Addr} {n cap : Nat} {l : List ByteArray} (h : Row S w 1 (.slice a n cap) l.length (l.flatMap fun s => [.string s])) (i : Nat) (hi : i < l.length) :
    ∃ b off, a = some ⟨b, off, none⟩ ∧ S b ∧ w.cell? ⟨b, off + i, none⟩ = some (.string l[i]) := by
  obtain ⟨h0, a', cap', h1, h2, h3, h4, h5⟩ := h
  cases h1
  obtain ⟨b, off, rfl, h7, h8⟩ := h5 (by omega)
  refine ⟨b, off, rfl, h7, h8 i _ ?_⟩
  have : l.flatMap (fun s => [Value.string s]) = l.map Value.string := (List.map_eq_flatMap).symm
  rw [this, List.getElem?_map, List.getElem?_eq_getElem hi]; rfl

theorem fitN_iff {l : List Nd} : FitN l ↔ ∀ x ∈ l, Fit1 x ∧ FitN x.kids := by
  induction l with
  | nil => simp [fitN_nil]
  | cons x r ih => rw [fitN_cons, ih]; simp; exact ⟨fun h => ⟨⟨h.1, h.2.1⟩, h.2.2⟩, fun h => ⟨h.1.1, h.1.2, h.2⟩⟩
theorem fit_merge {l : List Nd} (h : FitN l) (ht : txtN l ≤ 268435456) : FitN (M3.merge l) := by
  have h1 := M3.merge_all (P := fun x => (x.name.size ≤ 268435456 ∧ (∀ a ∈ x.attrs, a.name.size ≤ 268435456 ∧ a.value.size ≤ 268435456) ∧ 1 + x.attrs.length + M3.weight x.kids ≤ 1000000) ∧ FitN x.kids)
    (fun x y hx _ _ _ => by rw [M3.withText_name, M3.withText_attrs, M3.withText_kids]; exact hx) l (fun x hx => by have := fitN_iff.1 h x hx; exact ⟨⟨this.1.1, this.1.2.2.1, this.1.2.2.2⟩, this.2⟩)
  have h2 := txtN_merge l
  refine fitN_iff.2 (fun x hx => ?_)
  obtain ⟨⟨q1, q2, q3⟩, q4⟩ := h1 x hx
  have := txtN_mem hx
  exact ⟨⟨q1, by omega, q2, q3⟩, q4⟩

def few20 (s : ByteArray) : ByteArray := if 20 < s.size then s.extract 0 20 else s
theorem few20_size (s : ByteArray) : (few20 s).size ≤ 20 := by
  unfold few20
  split
  · simp; omega
  · omega
/-- A text that is right, a comment. -/
def txV (t : ByteArray) : NV := ⟨.mk 2 ⟨#[]⟩ [] t [], .slice none 0 0, .slice none 0 0⟩
def coV : NV := ⟨.mk 3 ⟨#[]⟩ [] ⟨#[99]⟩ [], .slice none 0 0, .slice none 0 0⟩
def Plain6 (A : List NV) : Prop := ∀ b ∈ A, (∃ t, b = txV t ∧ M1.isB t.data.toList = true ∧ t.size ≤ 80) ∨ b = coV
theorem isB_c : M1.isB [99] = true := by rw [isB_low _ _ (by decide) (by decide) (by decide), M1.isB_nil]
theorem plain_ok {A : List NV} (h : Plain6 A) : ∀ x ∈ A.map NV.x, M3.okP x := by
  intro x hx
  obtain ⟨b, hb, rfl⟩ := List.mem_map.1 hx
  rcases h b hb with ⟨t, rfl, h1, _⟩ | rfl
  · exact ⟨by unfold M3.plainB; rw [nilB_data]; rfl, h1⟩
  · refine ⟨?_, M3.mayE_nil _⟩
    show M3.oneE (.mk 3 ⟨#[]⟩ [] ⟨#[99]⟩ []) false = 0
    rw [M3.oneE_mk]
    have : M1.isB (⟨#[99]⟩ : ByteArray).data.toList = true := isB_c
    unfold M3.oneF M3.kindlyF M3.plainF
    rw [this, nilB_data, nilB_data]
    decide
theorem plain_fit {A : List NV} (h : Plain6 A) : FitN (A.map NV.x) := by
  refine fitN_iff.2 (fun x hx => ?_)
  obtain ⟨b, hb, rfl⟩ := List.mem_map.1 hx
  rcases h b hb with ⟨t, rfl, _, h2⟩ | rfl
  · exact ⟨⟨by show (⟨#[]⟩ : ByteArray).size ≤ _; decide, by show t.size ≤ _; omega, (fun a ha => by cases ha), by show 1 + 0 + M3.weight [] ≤ _; rw [M3.weight_nil]; omega⟩, fitN_nil⟩
  · exact ⟨⟨by show (⟨#[]⟩ : ByteArray).size ≤ _; decide, by show (⟨#[99]⟩ : ByteArray).size ≤ _; decide, (fun a ha => by cases ha), by show 1 + 0 + M3.weight [] ≤ _; rw [M3.weight_nil]; omega⟩, fitN_nil⟩
theorem plain_weight {A : List NV} (h : Plain6 A) : M3.weight (A.map NV.x) = A.length := by
  induction A with
  | nil => exact M3.weight_nil
  | cons b r ih =>
    rw [List.map_cons, M3.weight_cons, ih (fun c hc => h c (by simp [hc])), List.length_cons]
    rcases h b (by simp) with ⟨t, rfl, _, _⟩ | rfl
    · show 1 + 0 + M3.weight [] + r.length = _; rw [M3.weight_nil]; omega
    · show 1 + 0 + M3.weight [] + r.length = _; rw [M3.weight_nil]; omega
theorem plain_txt {A : List NV} (h : Plain6 A) : txtN (A.map NV.x) ≤ A.length * 80 := by
  have := txtN_fit (A.map NV.x) 80 (fun x hx => by
    obtain ⟨b, hb, rfl⟩ := List.mem_map.1 hx
    rcases h b hb with ⟨t, rfl, _, h2⟩ | rfl
    · exact h2
    · show (⟨#[99]⟩ : ByteArray).size ≤ _; decide)
  rwa [List.length_map] at this
theorem plain_rep {A : List NV} (S : Nat → Prop) (w : World) (h : Plain6 A) : ∀ b ∈ A, RepV S w b.x b.va b.vk := by
  intro b hb
  rcases h b hb with ⟨t, rfl, _, _⟩ | rfl
  · exact ⟨Row.nil _ _ _, RepN.nil _ _⟩
  · exact ⟨Row.nil _ _ _, RepN.nil _ _⟩

set_option maxHeartbeats 4000000 in
set_option maxRecDepth 100000 in
theorem law03DomGood (S : Nat → Prop) (v : Value) (l : List ByteArray) (w : World) (hS : ∀ b, S b → b < w.heap.size) (hr : Row S w 1 v l.length (l.flatMap fun s => [.string s])) (hsz : ∀ s ∈ l, s.size ≤ 9223372036854775807) :
    Calls Try.prog 6 #[v] w fun e w' => e = .returned (.bool true) ∧ Below w.heap.size w w' := by
  obtain ⟨a, cap, rfl⟩ := hr.slice
  obtain ⟨_, hlc, hcm⟩ := hr.len
  replace hsz := Lib.hid hsz
  go_enter Try.func6, Try.ntmps6
  go_wp2_with (fail)
  go_loopw [3, 4, 5] (fun u3 u4 _ wr => ∃ (i : Nat) (A : List NV), i ≤ l.length ∧ i ≤ 6 ∧ u4 = .int .i64 (i : Int) ∧ A.length ≤ 2 * i ∧ Hid (Plain6 A) ∧ wr.ownsRow w.heap.size 28 5 u3 A.length (cellsV A) ∧ Below w.heap.size w wr) (fun _ u4 _ _ => 6 - (intOf u4).toNat)
  case atStart => exact ⟨0, [], by omega, by omega, rfl, by simp, Lib.hid (fun b hb => by cases hb), World.ownsRow_nil _ _ _ _, Below.refl _ _⟩
  case round =>
    obtain ⟨i, A, hi, hi6, rfl, hAl, hP, hown, hb⟩ := hrel
    have hz := hb.size
    by_cases hlt : i < l.length ∧ i < 6
    · obtain ⟨hlt1, hlt2⟩ := hlt
      obtain ⟨b, off, rfl, hSb, c0⟩ := (hr.below hS hb).atS i hlt1
      have hsi := hsz.out _ (List.getElem_mem hlt1)
      have hf20 := few20_size l[i]
      have hif : Hid (few20 l[i] = if 20 < l[i].size then l[i].extract 0 20 else l[i]) := rfl
      generalize l[i] = s at *
      obtain ⟨x1, w1, hc1, s1, b1⟩ := conv_bytes wr (few20 s) (by omega)
      have hR := Lib.hid (ref01Right x1 _ w1 s1 (by show (few20 s).size ≤ _; omega))
      have hrl := M1.right_len (few20 s).data.toList
      have hrB := Lib.hid (M1.isB_right (few20 s).data.toList)
      have hfl : (few20 s).data.toList.length ≤ 20 := hf20
      generalize M1.right (few20 s).data.toList = rt at *
      by_cases h20 : 20 < s.size
      · rw [if_pos h20] at hif
        rw [hif.out] at hc1
        go_wp2_with (fail)
        refine hR.out.mono ?_
        rintro e w2 ⟨rfl, b2⟩
        have hbr2 : Below wr.heap.size wr w2 := bt b1 b2
        have hb2 := hb.trans (hbr2.mono hz)
        have hown2 := own_below hown hbr2
        have hz2 := hb2.size
        have hP2 := hP.out
        have hP3 : Hid (Plain6 (A ++ [txV ⟨rt.toArray⟩])) := Lib.hid (fun b hb => by
          rcases List.mem_append.1 hb with h | h
          · exact hP2 b h
          · simp at h; subst h; exact .inl ⟨_, rfl, hrB.out, by show rt.length ≤ _; omega⟩)
        clear hR c0 hown s1 hP2
        have hlT : (A ++ [txV ⟨rt.toArray⟩]).length = A.length + 1 := by simp
        cases h3 : ((i : Int) % 3 == 2)
        · go_wp2_with (at_builtin; refine wpList_appK _ [.int .i64 2, .string ⟨#[]⟩, .slice none 0 0, .string ⟨rt.toArray⟩, .slice none 0 0] 5 rfl _ _ 22 28 rfl w.heap.size Try.underlying22 infoN rfl (by omega) u3 A.length (cellsV A) rfl hown2 _ rfl rfl rfl (five_one _ _ _ _ _ _ _ _ _) (by omega) (by omega) (by omega) ?_; intro g cp w3 hown3 hgrow3 hat3)
          have hb3 := below_own hb2 hown2 hgrow3 hz2 (Nat.le_refl _)
          have hown4 : w3.ownsRow w.heap.size 28 5 (.slice (some ⟨g, 0, none⟩) (A.length + 1) cp) (A ++ [txV ⟨rt.toArray⟩]).length (cellsV (A ++ [txV ⟨rt.toArray⟩])) := by
            rw [cellsV_snoc, hlT]; exact hown3
          clear hown3 hgrow3 hat3
          go_roundw
          case rel => exact ⟨i + 1, (A ++ [txV ⟨rt.toArray⟩]), by omega, by omega, by go_num, by omega, hP3, hown4, hb3⟩
          case measure => exact meas_nat hlt2
        · have hP4 : Hid (Plain6 ((A ++ [txV ⟨rt.toArray⟩]) ++ [coV])) := Lib.hid (fun b hb => by
            rcases List.mem_append.1 hb with h | h
            · exact hP3.out b h
            · simp at h; subst h; exact .inr rfl)
          go_wp2_with (first
            | (at_builtin; refine wpList_appK _ [.int .i64 2, .string ⟨#[]⟩, .slice none 0 0, .string ⟨rt.toArray⟩, .slice none 0 0] 5 rfl _ _ 22 28 rfl w.heap.size Try.underlying22 infoN rfl (by omega) u3 A.length (cellsV A) rfl hown2 _ rfl rfl rfl (five_one _ _ _ _ _ _ _ _ _) (by omega) (by omega) (by omega) ?_; intro g cp w3 hown3 hgrow3 hat3; have hb3 := below_own hb2 hown2 hgrow3 hz2 (Nat.le_refl _); have hz3 := hb3.size; have hown4 : w3.ownsRow w.heap.size 28 5 (.slice (some ⟨g, 0, none⟩) (A.length + 1) cp) (A.length + 1) (cellsV (A ++ [txV ⟨rt.toArray⟩])) := by (rw [cellsV_snoc]; exact hown3))
            | (at_builtin; refine wpList_appK _ [.int .i64 3, .string ⟨#[]⟩, .slice none 0 0, .string ⟨#[99]⟩, .slice none 0 0] 5 rfl _ _ 22 28 rfl w.heap.size Try.underlying22 infoN rfl (by omega) _ (A.length + 1) (cellsV (A ++ [txV ⟨rt.toArray⟩])) rfl hown4 _ rfl rfl rfl (five_one _ _ _ _ _ _ _ _ _) (by omega) (by omega) (by omega) ?_; intro g4 cp4 w4 hown5 hgrow5 hat5))
          have hb4 := below_own hb3 hown4 hgrow5 hz3 (Nat.le_refl _)
          have hown6 : w4.ownsRow w.heap.size 28 5 (.slice (some ⟨g4, 0, none⟩) (A.length + 1 + 1) cp4) ((A ++ [txV ⟨rt.toArray⟩]) ++ [coV]).length (cellsV ((A ++ [txV ⟨rt.toArray⟩]) ++ [coV])) := by
            rw [cellsV_snoc (A ++ [txV ⟨rt.toArray⟩]), List.length_append, hlT]; exact hown5
          clear hown3 hgrow3 hat3 hown5 hgrow5 hat5
          go_roundw
          case rel => exact ⟨i + 1, (A ++ [txV ⟨rt.toArray⟩]) ++ [coV], by omega, by omega, by go_num, by rw [List.length_append, hlT]; simp; omega, hP4, hown6, hb4⟩
          case measure => exact meas_nat hlt2
      · rw [if_neg h20] at hif
        rw [hif.out] at hc1
        go_wp2_with (fail)
        refine hR.out.mono ?_
        rintro e w2 ⟨rfl, b2⟩
        have hbr2 : Below wr.heap.size wr w2 := bt b1 b2
        have hb2 := hb.trans (hbr2.mono hz)
        have hown2 := own_below hown hbr2
        have hz2 := hb2.size
        have hP2 := hP.out
        have hP3 : Hid (Plain6 (A ++ [txV ⟨rt.toArray⟩])) := Lib.hid (fun b hb => by
          rcases List.mem_append.1 hb with h | h
          · exact hP2 b h
          · simp at h; subst h; exact .inl ⟨_, rfl, hrB.out, by show rt.length ≤ _; omega⟩)
        clear hR c0 hown s1 hP2
        have hlT : (A ++ [txV ⟨rt.toArray⟩]).length = A.length + 1 := by simp
        cases h3 : ((i : Int) % 3 == 2)
        · go_wp2_with (at_builtin; refine wpList_appK _ [.int .i64 2, .string ⟨#[]⟩, .slice none 0 0, .string ⟨rt.toArray⟩, .slice none 0 0] 5 rfl _ _ 22 28 rfl w.heap.size Try.underlying22 infoN rfl (by omega) u3 A.length (cellsV A) rfl hown2 _ rfl rfl rfl (five_one _ _ _ _ _ _ _ _ _) (by omega) (by omega) (by omega) ?_; intro g cp w3 hown3 hgrow3 hat3)
          have hb3 := below_own hb2 hown2 hgrow3 hz2 (Nat.le_refl _)
          have hown4 : w3.ownsRow w.heap.size 28 5 (.slice (some ⟨g, 0, none⟩) (A.length + 1) cp) (A ++ [txV ⟨rt.toArray⟩]).length (cellsV (A ++ [txV ⟨rt.toArray⟩])) := by
            rw [cellsV_snoc, hlT]; exact hown3
          clear hown3 hgrow3 hat3
          go_roundw
          case rel => exact ⟨i + 1, (A ++ [txV ⟨rt.toArray⟩]), by omega, by omega, by go_num, by omega, hP3, hown4, hb3⟩
          case measure => exact meas_nat hlt2
        · have hP4 : Hid (Plain6 ((A ++ [txV ⟨rt.toArray⟩]) ++ [coV])) := Lib.hid (fun b hb => by
            rcases List.mem_append.1 hb with h | h
            · exact hP3.out b h
            · simp at h; subst h; exact .inr rfl)
          go_wp2_with (first
            | (at_builtin; refine wpList_appK _ [.int .i64 2, .string ⟨#[]⟩, .slice none 0 0, .string ⟨rt.toArray⟩, .slice none 0 0] 5 rfl _ _ 22 28 rfl w.heap.size Try.underlying22 infoN rfl (by omega) u3 A.length (cellsV A) rfl hown2 _ rfl rfl rfl (five_one _ _ _ _ _ _ _ _ _) (by omega) (by omega) (by omega) ?_; intro g cp w3 hown3 hgrow3 hat3; have hb3 := below_own hb2 hown2 hgrow3 hz2 (Nat.le_refl _); have hz3 := hb3.size; have hown4 : w3.ownsRow w.heap.size 28 5 (.slice (some ⟨g, 0, none⟩) (A.length + 1) cp) (A.length + 1) (cellsV (A ++ [txV ⟨rt.toArray⟩])) := by (rw [cellsV_snoc]; exact hown3))
            | (at_builtin; refine wpList_appK _ [.int .i64 3, .string ⟨#[]⟩, .slice none 0 0, .string ⟨#[99]⟩, .slice none 0 0] 5 rfl _ _ 22 28 rfl w.heap.size Try.underlying22 infoN rfl (by omega) _ (A.length + 1) (cellsV (A ++ [txV ⟨rt.toArray⟩])) rfl hown4 _ rfl rfl rfl (five_one _ _ _ _ _ _ _ _ _) (by omega) (by omega) (by omega) ?_; intro g4 cp4 w4 hown5 hgrow5 hat5))
          have hb4 := below_own hb3 hown4 hgrow5 hz3 (Nat.le_refl _)
          have hown6 : w4.ownsRow w.heap.size 28 5 (.slice (some ⟨g4, 0, none⟩) (A.length + 1 + 1) cp4) ((A ++ [txV ⟨rt.toArray⟩]) ++ [coV]).length (cellsV ((A ++ [txV ⟨rt.toArray⟩]) ++ [coV])) := by
            rw [cellsV_snoc (A ++ [txV ⟨rt.toArray⟩]), List.length_append, hlT]; exact hown5
          clear hown3 hgrow3 hat3 hown5 hgrow5 hat5
          go_roundw
          case rel => exact ⟨i + 1, (A ++ [txV ⟨rt.toArray⟩]) ++ [coV], by omega, by omega, by go_num, by rw [List.length_append, hlT]; simp; omega, hP4, hown6, hb4⟩
          case measure => exact meas_nat hlt2
    · have hP2 := hP.out
      have hw6 := plain_weight hP2
      have ht6 := plain_txt hP2
      have hfit := fit_merge (plain_fit hP2) (by omega)
      have hrep : RepN (fun b => b < wr.heap.size) wr u3 (A.map NV.x) := ⟨cellsV A, by rw [List.length_map]; exact Row.own hown (fun g hg => (hown.lt g hg).2), RepC.of_nv (plain_rep _ _ hP2)⟩
      have hM := Lib.hid (domMerge _ u3 (A.map NV.x) wr (fun _ h => h) hrep (by omega) (by omega))
      have hmay := Lib.hid (M3.may_merge _ (plain_ok hP2))
      obtain ⟨a3, c3, rfl⟩ := own_slice hown
      clear hP hP2 hw6 ht6 hrep
      generalize M3.merge (A.map NV.x) = M at *
      have htest : (decide (i < l.length) = false) ∨ (decide (i < l.length) = true ∧ decide ((i : Int) < 6) = false) := by
        by_cases h : i < l.length
        · exact Or.inr ⟨decide_eq_true (by omega), decide_eq_false (by omega)⟩
        · exact Or.inl (decide_eq_false (by omega))
      clear hlt
      rcases htest with htest | ⟨htest, htest2⟩
      all_goals
        go_wp2_with (fail)
        refine hM.out.mono ?_
        rintro e w1 ⟨v1, rfl, hfr1, hb1⟩
        have hz1 := hb1.size
        have hDM := Lib.hid (domMay _ v1 M w1 (fun b h => h.2) hfr1.rep hfit)
        obtain ⟨a4, c4, rfl⟩ := hfr1.rep.slice
        rw [hmay.out] at hDM
        clear hM hfr1
        go_wp2_with (fail)
        refine hDM.out.mono ?_
        rintro e w2 ⟨rfl, hb2⟩
        go_wp2_with (fail)
        refine (lives03 _).mono ?_
        rintro e w3 ⟨rfl, hb3⟩
        have hbb : Below w.heap.size w w3 := ((hb.trans (hb1.mono hz)).trans (hb2.mono (by omega))).trans (hb3.mono (by have := hb2.size; omega))
        go_wp2
        go_ret
        exact ⟨rfl, hbb⟩
end Go.Proofs.Ytjelmpajphajfaa

/- The reference of layer 3: May. -/
namespace Go.Proofs.Ytjelmpajphajfaa
open Go.RowKit

def behind (l : List Nd) : Nat → Bool
  | 0 => false
  | i + 1 => match l[i]? with | some x => x.kind == 2 | none => false
theorem behind_succ (l : List Nd) (i : Nat) (h : i < l.length) : behind l (i + 1) = (l[i].kind == 2) := by
  show (match l[i]? with | some x => x.kind == 2 | none => false) = _
  rw [List.getElem?_eq_getElem h]
theorem may_drop (l : List Nd) (i : Nat) (h : i < l.length) : M3.mayE (behind l i) (l.drop i) = if M3.oneE l[i] (behind l i) ≠ 0 then M3.oneE l[i] (behind l i) else if M3.mayE false l[i].kids ≠ 0 then M3.mayE false l[i].kids else M3.mayE (behind l (i + 1)) (l.drop (i + 1)) := by
  rw [List.drop_eq_getElem_cons h, M3.mayE_cons, behind_succ l i h]

theorem wpStill_skip {P : Program} {ops : Array Oper} {w : World} {Q : Act → Prop} {a : Act} {o : Oper} {rest : List Oper} (hw : Region.wanted o (yielded ops a.tmps) = false)
    (h : ∀ K : Act → Prop, (∀ a, wpStill P ops w Q rest a → K a) → K (a.put o.dst undef)) : wpStill P ops w Q (o :: rest) a := by
  unfold wpStill
  rw [if_neg (by simp [hw])]
  exact h _ (fun _ h => h)
set_option maxHeartbeats 8000000 in
set_option maxRecDepth 100000 in
theorem ref03May (wt : Nat) : ∀ (S : Nat → Prop) (v : Value) (l : List Nd) (w : World), M3.weight l < wt → FitN l → (∀ b, S b → b < w.heap.size) → RepN S w v l →
    Calls Try.prog 15 #[v] w (IntPost (M3.mayE false l) w) := by
  induction wt with
  | zero => intro S v l w h; omega
  | succ wt ih =>
  intro S v l w hwt hfit hS hr
  obtain ⟨a, cap, rfl⟩ := hr.slice
  obtain ⟨_, hlc, hcm⟩ := hr.len
  replace ih := Lib.hid ih
  have h0 : Hid (M3.mayE false l = M3.mayE (behind l 0) (l.drop 0)) := rfl
  replace hfit := Lib.hid hfit
  go_enter Try.func15, Try.ntmps15
  go_wp2_with fail
  go_loopw [3, 4] (fun u3 _ wr => ∃ i : Nat, i ≤ l.length ∧ u3 = .int .i64 (i : Int) ∧ Hid (M3.mayE false l = M3.mayE (behind l i) (l.drop i)) ∧ Below w.heap.size w wr) (fun u3 _ _ => l.length - (intOf u3).toNat)
  case atStart => exact ⟨0, by omega, rfl, h0, Below.refl _ _⟩
  case round =>
    obtain ⟨i, hi, rfl, hv, hb⟩ := hrel
    have hz := hb.size
    by_cases hlt : i < l.length
    · have hr1 := hr.below hS hb
      obtain ⟨b, off, va, vk, rfl, hSb, c0, c1, c2, c3, c4, hrv⟩ := hr1.at_ i hlt
      have hbl := hS b hSb
      have hmd := hv.out.trans (may_drop l i hlt)
      obtain ⟨hf1, hf2⟩ := fitN_iff.1 hfit.out _ (List.getElem_mem hlt)
      have hwk := weight_mem (List.getElem_mem hlt)
      have hprev : ∀ _ : 0 < i, wr.cell? ⟨b, off + (i - 1) * 5, none⟩ = some (.int .i64 l[i - 1].kind) ∧ behind l i = (l[i - 1].kind == 2) := by
        intro h
        obtain ⟨b', off', va', vk', e, _, d0, _⟩ := hr1.at_ (i - 1) (by omega)
        cases e
        refine ⟨d0, ?_⟩
        have := behind_succ l (i - 1) (by omega)
        rwa [show i - 1 + 1 = i by omega] at this
      generalize l[i] = x at *
      have hrv0 := hrv
      obtain ⟨a1, e1, rfl⟩ := hrv.at_.slice
      obtain ⟨a2, e2, rfl⟩ := hrv.kids.slice
      have hOne := Lib.hid (fun p => ref03One S x _ _ p wr.drew (fun b h => by have := hS b h; simp; omega) (hrv0.keep (fun _ _ => rfl)) hf1)
      have hih := Lib.hid (fun W (hW : Below wr.heap.size wr W) => ih.out S (.slice a2 x.kids.length e2) x.kids W (by omega) hf2 (fun b h => by have := hS b h; have := hW.size; omega) (RepN.below (w := wr) (B := wr.heap.size) hrv.kids (fun b h => by have := hS b h; omega) hW))
      generalize hrest : M3.mayE (behind l (i + 1)) (l.drop (i + 1)) = rest at *
      replace hrest := Lib.hid hrest
      have hI0 : (0 : Int) ≤ (i : Int) := by omega
      have hI1 : (i : Int) < (l.length : Int) := by omega
      clear hv hr1 hrv0
      replace hmd := Lib.hid hmd
      by_cases hi0 : 0 < i
      · obtain ⟨d0, hbe⟩ := hprev hi0
        have hmd := hmd.out
        rw [hbe] at hmd
        have hi1 : (0 : Int) < (i : Int) := by omega
        have hj1 : (i : Int) - 1 = ((i - 1 : Nat) : Int) := by omega
        have hj2 : ((i - 1 : Nat) : Int) < (l.length : Int) := by omega
        have hj3 : (0 : Int) ≤ ((i - 1 : Nat) : Int) := by omega
        have hj5 : IntKind.i64.wrap ((i - 1 : Nat) : Int) = ((i - 1 : Nat) : Int) := IntWalk.i64_in _ ⟨by omega, by omega⟩
        have hj4 : i - 1 < l.length := by omega
        clear hprev
        generalize l[i - 1].kind = pk at *
        obtain ⟨j, hj⟩ : ∃ j, i - 1 = j := ⟨_, rfl⟩
        rw [hj] at d0 hj1 hj2 hj3 hj4 hj5
        clear hj
        generalize hpq : (pk == 2) = pq at *
        go_wp2_with fail
        go_still_tail 15, (by kernel_rfl)
        change wpList _ _ _ _ _ wr.drew
        go_wp2_with fail
        refine (hOne.out pq).mono ?_
        rintro e w2 ⟨rfl, hb2⟩
        have hbw2 : Below wr.heap.size wr w2 := ((Below.refl _ wr).drew).trans hb2
        have hz2 := hbw2.size
        have c4' := (hbw2.cell (p := ⟨b, off + i * 5 + 4, none⟩) (by simp; omega)).trans c4
        clear hOne c0 c1 c2 c3 c4
        generalize M3.oneE x pq = z at *
        by_cases hz1 : z = 0
        · have hz1b : (z == 0) = true := by simpa using hz1
          rw [hz1, if_neg (by simp)] at hmd
          replace hz1 := Lib.hid hz1
          have hk2 := Lib.hid (hih.out w2 hbw2)
          clear hih
          go_wp2_with fail
          refine hk2.out.mono ?_
          rintro e w3 ⟨rfl, hb3⟩
          have hbw3 : Below w.heap.size w w3 := (hb.trans (hbw2.mono hz)).trans (hb3.mono (by omega))
          clear hk2 c4'
          generalize M3.mayE false x.kids = y at *
          by_cases hy : y = 0
          · rw [hy, if_neg (by simp)] at hmd
            have hy1 : (y == 0) = true := by simpa using hy
            replace hy := Lib.hid hy
            go_wp2_with fail
            go_roundw
            case rel => exact ⟨i + 1, by omega, by go_num, by show _ = _; rw [hmd, hrest.out], hbw3⟩
            case measure => exact meas_nat hlt
          · rw [if_pos hy] at hmd
            have hy1 : (y == 0) = false := by simpa using hy
            replace hmd := Lib.hid hmd
            go_wp2_with fail
            go_ret
            exact ⟨by rw [hmd.out]; rfl, hbw3⟩
        · rw [if_pos hz1] at hmd
          have hz1b : (z == 0) = false := by simpa using hz1
          replace hmd := Lib.hid hmd
          clear hih
          go_wp2_with fail
          go_ret
          exact ⟨by rw [hmd.out]; rfl, hb.trans (hbw2.mono hz)⟩
      · clear hprev
        have hmd := hmd.out
        have hbe : behind l i = false := by
          have : i = 0 := by omega
          subst this; rfl
        rw [hbe] at hmd
        obtain ⟨q, hd3⟩ : ∃ q, decide (0 < i) = q := ⟨_, rfl⟩
        have hq2 : Hid (q = false) := by show _ = _; rw [← hd3]; exact decide_eq_false hi0
        replace hi0 := Lib.hid hi0
        go_wp2_with fail
        refine wp_region_still_tail 15 (by kernel_rfl) (by kernel_rfl) ?_
        simp only [List.take_succ_cons, List.take_zero, List.drop_succ_cons, List.drop_zero]
        iterate 7 still_step
        iterate 7
          refine wpStill_skip (by simp [Region.wanted, yielded, hq2.out]) (fun K hK => ?_)
          go_simp
          refine hK _ ?_
          clear hK K
        obtain rfl : q = false := hq2.out
        still_step
        refine wpStill_nil ?_
        change wpList _ _ _ _ _ wr.drew
        go_wp2_with fail
        refine (hOne.out false).mono ?_
        rintro e w2 ⟨rfl, hb2⟩
        have hbw2 : Below wr.heap.size wr w2 := ((Below.refl _ wr).drew).trans hb2
        have hz2 := hbw2.size
        have c4' := (hbw2.cell (p := ⟨b, off + i * 5 + 4, none⟩) (by simp; omega)).trans c4
        clear hOne c0 c1 c2 c3 c4
        generalize M3.oneE x false = z at *
        by_cases hz1 : z = 0
        · have hz1b : (z == 0) = true := by simpa using hz1
          rw [hz1, if_neg (by simp)] at hmd
          replace hz1 := Lib.hid hz1
          have hk2 := Lib.hid (hih.out w2 hbw2)
          clear hih
          go_wp2_with fail
          refine hk2.out.mono ?_
          rintro e w3 ⟨rfl, hb3⟩
          have hbw3 : Below w.heap.size w w3 := (hb.trans (hbw2.mono hz)).trans (hb3.mono (by omega))
          clear hk2 c4'
          generalize M3.mayE false x.kids = y at *
          by_cases hy : y = 0
          · rw [hy, if_neg (by simp)] at hmd
            have hy1 : (y == 0) = true := by simpa using hy
            replace hy := Lib.hid hy
            go_wp2_with fail
            go_roundw
            case rel => exact ⟨i + 1, by omega, by go_num, by show _ = _; rw [hmd, hrest.out], hbw3⟩
            case measure => exact meas_nat hlt
          · rw [if_pos hy] at hmd
            have hy1 : (y == 0) = false := by simpa using hy
            replace hmd := Lib.hid hmd
            go_wp2_with fail
            go_ret
            exact ⟨by rw [hmd.out]; rfl, hbw3⟩
        · rw [if_pos hz1] at hmd
          have hz1b : (z == 0) = false := by simpa using hz1
          replace hmd := Lib.hid hmd
          clear hih
          go_wp2_with fail
          go_ret
          exact ⟨by rw [hmd.out]; rfl, hb.trans (hbw2.mono hz)⟩
    · obtain rfl : i = l.length := by omega
      rw [List.drop_length, M3.mayE_nil] at hv
      go_wp2_with fail
      go_ret
      exact ⟨by rw [hv.out]; rfl, hb⟩
end Go.Proofs.Ytjelmpajphajfaa
