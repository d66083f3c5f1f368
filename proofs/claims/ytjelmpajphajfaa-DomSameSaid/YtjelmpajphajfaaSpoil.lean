/- The statements of layer 3: nodes are turned, with all that stands in them; nothing else is. -/
import Derived.Test.YtjelmpajphajfaaRef03w
import Derived.Test.YtjelmpajphajfaaDomM3
namespace Go.Proofs.Ytjelmpajphajfaa
open Go.RowKit

/-- Nothing but blocks of F has changed, none is new. -/
structure Spoilt (F : List Nat) (w w' : World) : Prop where
  os : w'.os = w.os
  tape : w'.tape = w.tape
  output : w'.output = w.output
  size : w'.heap.size = w.heap.size
  block : ∀ b, b ∉ F → w'.heap[b]? = w.heap[b]?
theorem Spoilt.refl (F : List Nat) (w : World) : Spoilt F w w := ⟨rfl, rfl, rfl, rfl, fun _ _ => rfl⟩
theorem Spoilt.trans {F : List Nat} {w w1 w2 : World} (h : Spoilt F w w1) (k : Spoilt F w1 w2) : Spoilt F w w2 :=
  ⟨k.os.trans h.os, k.tape.trans h.tape, k.output.trans h.output, k.size.trans h.size, fun b hb => (k.block b hb).trans (h.block b hb)⟩
theorem Spoilt.mono {F G : List Nat} {w w1 : World} (h : Spoilt F w w1) (hs : ∀ b ∈ F, b ∈ G) : Spoilt G w w1 := ⟨h.os, h.tape, h.output, h.size, fun b hb => h.block b (fun e => hb (hs b e))⟩
theorem Spoilt.set (w : World) (g i : Nat) (u : Value) : Spoilt [g] w (w.setCell ⟨g, i, none⟩ u) :=
  ⟨by simp [World.setCell], by simp [World.setCell], by simp [World.setCell], by simp [World.setCell], fun b hb => Below.heap_setCell _ _ _ _ (by simp at hb; simpa using hb)⟩
theorem Spoilt.below {F : List Nat} {w w1 : World} {B : Nat} (h : Spoilt F w w1) (hB : ∀ b ∈ F, B ≤ b) : Below B w w1 := ⟨h.os, h.tape, h.output, by rw [h.size]; exact Nat.le_refl _, fun b hb => h.block b (fun e => by have := hB b e; omega)⟩
theorem Spoilt.own {F : List Nat} {w w1 : World} {B : Nat} {e : TypeId} {k n : Nat} {v : Value} {xs : List Value} (h : Spoilt F w w1) (ho : w.ownsRow B e k v n xs) (hn : ∀ g, v.ownBlock = some g → g ∉ F) : w1.ownsRow B e k v n xs :=
  own_keep ho (fun g hg => h.block g (hn g hg))
def SpoilPost (F : List Nat) (w : World) (e : Ending) (w' : World) : Prop := e = .returned (.tuple #[]) ∧ Spoilt F w w'

set_option maxHeartbeats 4000000 in
set_option maxRecDepth 100000 in
theorem law03Spoil (wt : Nat) : ∀ (l : List Nd) (v : Value) (zs : List Value) (F : List Nat) (w : World), M3.weight l < wt → M3.weight l ≤ 1000000 → w.ownsRow 0 28 5 v l.length zs → OwnC w zs l F → (v.ownBlock.toList ++ F).Nodup →
    Calls Try.prog 26 #[v] w (SpoilPost (v.ownBlock.toList ++ F) w) := by
  induction wt with
  | zero => intro l v zs F w h; omega
  | succ wt ih =>
  intro l v zs F w hwt hw6 hown hoc hnd
  obtain ⟨a, cap, rfl⟩ := own_slice hown
  have hll := M3.length_le_weight l
  have hoc0 : OwnC w (zs.drop (0 * 5)) (l.drop 0) F := by simpa using hoc
  replace ih := Lib.hid ih
  go_enter Try.func26, Try.ntmps26
  go_wp2_with (fail)
  go_loopw [2, 3] (fun u2 _ wr => ∃ (i : Nat) (zr : List Value) (G : List Nat), i ≤ l.length ∧ u2 = .int .i64 (i : Int) ∧ wr.ownsRow 0 28 5 (.slice a l.length cap) l.length zr ∧ OwnC wr (zr.drop (i * 5)) (l.drop i) G ∧ (∀ b ∈ G, b ∈ F) ∧ ((Value.slice a l.length cap).ownBlock.toList ++ G).Nodup ∧ Spoilt ((Value.slice a l.length cap).ownBlock.toList ++ F) w wr) (fun u2 _ _ => l.length - (intOf u2).toNat)
  case atStart => exact ⟨0, zs, F, by omega, rfl, hown, hoc0, fun _ h => h, hnd, Spoilt.refl _ _⟩
  case round =>
    obtain ⟨i, zr, G, hi, rfl, hownr, hocr, hGF, hndG, hsp⟩ := hrel
    clear hown hoc hoc0 hnd
    by_cases hlt : i < l.length
    · obtain ⟨g, cap', ha, hg0, hgl⟩ := hownr.form (by omega)
      cases ha
      have hdr : l.drop i = l[i] :: l.drop (i + 1) := List.drop_eq_getElem_cons hlt
      rw [hdr] at hocr
      have hmem := weight_le (List.getElem_mem hlt)
      generalize l[i] = x at *
      obtain ⟨va, vk, z2, ys, F1, F2, hz, ova, ovk, rfl, oc1, oc2⟩ := OwnC.cons_iff.1 hocr
      have hzr : zr = zr.take (i * 5) ++ x.cells va vk ++ ys := by rw [List.append_assoc, ← hz, List.take_append_drop]
      have hlt5 : (zr.take (i * 5)).length = i * 5 := by rw [List.length_take]; have := hownr.1; omega
      generalize zr.take (i * 5) = za at *
      subst hzr
      clear hz hocr
      obtain ⟨a1, e1, rfl⟩ := own_slice ova
      obtain ⟨a2, e2, rfl⟩ := own_slice ovk
      have hcell : ∀ j u, (x.cells (.slice a1 x.attrs.length e1) (.slice a2 x.kids.length e2))[j]? = some u → (za ++ x.cells (.slice a1 x.attrs.length e1) (.slice a2 x.kids.length e2) ++ ys)[i * 5 + j]? = some u := by
        intro j u hu
        have hj := (List.getElem?_eq_some_iff.1 hu).1
        rw [List.append_assoc, List.getElem?_append_right (by omega), hlt5, show i * 5 + j - i * 5 = j by omega, List.getElem?_append_left hj]
        exact hu
      obtain ⟨y0, q0⟩ := own_cell hownr _ _ (hcell 0 _ rfl)
      simp only [Nat.add_zero] at y0 q0
      have hst := (hownr.stored (i * 5) (.int .i64 9)).1
      have hset : (za ++ x.cells (.slice a1 x.attrs.length e1) (.slice a2 x.kids.length e2) ++ ys).set (i * 5) (.int .i64 9) = za ++ [.int .i64 9, .string x.name, .slice a1 x.attrs.length e1, .string x.text, .slice a2 x.kids.length e2] ++ ys := by
        rw [List.append_assoc, List.set_append_right _ _ (by omega), hlt5, Nat.sub_self, List.append_assoc]; rfl
      rw [hset] at hst
      have hgG : g ∉ (Value.slice a1 x.attrs.length e1).ownBlock.toList ++ ((Value.slice a2 x.kids.length e2).ownBlock.toList ++ F1) ++ F2 := by
        intro h
        exact (List.nodup_append.1 hndG).2.2 g (by simp [Value.ownBlock]) g h rfl
      have hnd2 := (List.nodup_append.1 hndG).2.1
      have s1 := Spoilt.set wr g (i * 5) (.int .i64 9)
      have ova1 := s1.own ova (fun b hb => by intro h; simp at h; subst h; exact hgG (by simp [hb]))
      have ovk1 := s1.own ovk (fun b hb => by intro h; simp at h; subst h; exact hgG (by simp [hb]))
      have oc11 := OwnC.keep _ _ _ (fun b hb => s1.block b (by intro h; simp at h; subst h; exact hgG (by simp [hb]))) oc1
      have oc21 := OwnC.keep _ _ _ (fun b hb => s1.block b (by intro h; simp at h; subst h; exact hgG (by simp [hb]))) oc2
      have hsp1 : Spoilt ((Value.slice (some ⟨g, 0, none⟩) l.length cap).ownBlock.toList ++ F) w (wr.setCell ⟨g, i * 5, none⟩ (.int .i64 9)) := hsp.trans (s1.mono (fun b hb => by simp at hb; subst hb; simp [Value.ownBlock]))
      have hI0 : (0 : Int) ≤ (i : Int) := by omega
      have hI1 : (i : Int) < (l.length : Int) := by omega
      replace hst := Lib.hid hst
      replace ova1 := Lib.hid ova1
      replace ovk1 := Lib.hid ovk1
      replace oc11 := Lib.hid oc11
      replace oc21 := Lib.hid oc21
      replace hcell := Lib.hid hcell
      replace hset := Lib.hid hset
      clear hownr ova ovk oc1 oc2 s1
      go_wp2_with (fail)
      obtain ⟨W1, hW1⟩ : ∃ W1, wr.setCell ⟨g, i * 5, none⟩ (.int .i64 9) = W1 := ⟨_, rfl⟩
      rw [hW1] at hst ova1 ovk1 oc11 oc21 hsp1 ⊢
      clear hW1 y0 q0
      have hcell9 : ∀ j u, ([.int .i64 9, .string x.name, .slice a1 x.attrs.length e1, .string x.text, .slice a2 x.kids.length e2] : List Value)[j]? = some u → (za ++ [.int .i64 9, .string x.name, .slice a1 x.attrs.length e1, .string x.text, .slice a2 x.kids.length e2] ++ ys)[i * 5 + j]? = some u := by
        intro j u hu
        have hj := (List.getElem?_eq_some_iff.1 hu).1
        rw [List.append_assoc, List.getElem?_append_right (by omega), hlt5, show i * 5 + j - i * 5 = j by omega, List.getElem?_append_left hj]
        exact hu
      replace hcell9 := Lib.hid hcell9
      go_loopw [3] (fun u3 wr => ∃ (k : Nat) (za' : List Value), k ≤ x.attrs.length ∧ u3 = .int .i64 (k : Int) ∧ wr.ownsRow 0 44 2 (.slice a1 x.attrs.length e1) x.attrs.length za' ∧ Spoilt (Value.slice a1 x.attrs.length e1).ownBlock.toList W1 wr) (fun u3 _ => x.attrs.length - (intOf u3).toNat)
      case atStart => exact ⟨0, _, by omega, rfl, ova1.out, Spoilt.refl _ _⟩
      case round =>
        obtain ⟨k, za', hk, rfl, ova2, hs2⟩ := hrel
        have hrow2 := hs2.own hst.out (fun b hb => by
          intro h
          simp [Value.ownBlock] at hb
          subst hb
          exact hgG (by simp [h]))
        obtain ⟨y2, _⟩ := own_cell hrow2 _ _ (hcell9.out 2 _ rfl)
        obtain ⟨y4, _⟩ := own_cell hrow2 _ _ (hcell9.out 4 _ rfl)
        replace hrow2 := Lib.hid hrow2
        by_cases hkl : k < x.attrs.length
        · obtain ⟨ga, ca, hga, _, hgal⟩ := ova2.form (by omega)
          cases hga
          obtain ⟨hc, hf⟩ : (∃ u, wr.cell? ⟨ga, k * 2 + 1, none⟩ = some u) ∧ wr.frozen? ⟨ga, k * 2 + 1, none⟩ = false := by
            have hl2 : k * 2 + 1 < za'.length := by rw [ova2.1]; omega
            obtain ⟨h1, h2⟩ := own_cell ova2 (k * 2 + 1) _ (List.getElem?_eq_getElem hl2)
            exact ⟨⟨_, h1⟩, h2⟩
          obtain ⟨cu, hc⟩ := hc
          have hst2 := (ova2.stored (k * 2 + 1) (.string ⟨#[115, 112, 111, 105, 108, 101, 100]⟩)).1
          have hs3 : Spoilt (Value.slice (some ⟨ga, 0, none⟩) x.attrs.length e1).ownBlock.toList W1 (wr.setCell ⟨ga, k * 2 + 1, none⟩ (.string ⟨#[115, 112, 111, 105, 108, 101, 100]⟩)) := hs2.trans (Spoilt.set _ _ _ _)
          have hK0 : (0 : Int) ≤ (k : Int) := by omega
          have hK1 : (k : Int) < (x.attrs.length : Int) := by omega
          replace hst2 := Lib.hid hst2
          clear ova2
          go_wp2_with (fail)
          go_roundw
          case rel => exact ⟨k + 1, _, by omega, by go_num, hst2.out, hs3⟩
          case measure => exact meas_nat hkl
        · obtain rfl : k = x.attrs.length := by omega
          have ovk2 := hs2.own ovk1.out (fun b hb h => by
            rw [List.append_assoc] at hnd2
            exact (List.nodup_append.1 hnd2).2.2 b h b (by simp [hb]) rfl)
          have oc12 := OwnC.keep _ _ _ (fun b hb => hs2.block b (fun h => by
            rw [List.append_assoc] at hnd2
            exact (List.nodup_append.1 hnd2).2.2 b h b (by simp [hb]) rfl)) oc11.out
          have oc22 := OwnC.keep _ _ _ (fun b hb => hs2.block b (fun h => by
            rw [List.append_assoc] at hnd2
            exact (List.nodup_append.1 hnd2).2.2 b h b (by simp [hb]) rfl)) oc21.out
          have hndk : ((Value.slice a2 x.kids.length e2).ownBlock.toList ++ F1).Nodup := by
            rw [List.append_assoc] at hnd2
            have := (List.nodup_append.1 hnd2).2.1
            exact (List.nodup_append.1 this).1
          have hih := Lib.hid (ih.out x.kids (.slice a2 x.kids.length e2) z2 F1 wr (by omega) (by omega) ovk2 oc12 hndk)
          replace ovk2 := Lib.hid ovk2
          replace oc12 := Lib.hid oc12
          replace oc22 := Lib.hid oc22
          clear ova2
          go_wp2_with (fail)
          refine hih.out.mono ?_
          rintro e w3 ⟨rfl, hs3⟩
          have hnot : ∀ b ∈ F2, b ∉ (Value.slice a2 x.kids.length e2).ownBlock.toList ++ F1 := fun b hb h => by
            exact (List.nodup_append.1 hnd2).2.2 b (List.mem_append_right _ h) b hb rfl
          have hrow3 := hs3.own hrow2.out (fun b hb => by
            intro h
            simp [Value.ownBlock] at hb
            subst hb
            exact hgG (List.mem_append_left _ (List.mem_append_right _ h)))
          have oc23 := OwnC.keep _ _ _ (fun b hb => hs3.block b (hnot b hb)) oc22.out
          have hs4 : Spoilt ((Value.slice (some ⟨g, 0, none⟩) l.length cap).ownBlock.toList ++ F) w w3 := (hsp1.trans (hs2.mono (fun b hb => List.mem_append_right _ (hGF b (by simp [hb]))))).trans (hs3.mono (fun b hb => List.mem_append_right _ (hGF b (List.mem_append_left _ (List.mem_append_right _ hb)))))
          have hndo : ((Value.slice (some ⟨g, 0, none⟩) l.length cap).ownBlock.toList ++ F2).Nodup := by
            refine List.nodup_append.2 ⟨(List.nodup_append.1 hndG).1, (List.nodup_append.1 hnd2).2.1, fun b hb c hc => ?_⟩
            exact (List.nodup_append.1 hndG).2.2 b hb c (List.mem_append_right _ hc)
          have hdrop : (za ++ ([.int .i64 9, .string x.name, .slice a1 x.attrs.length e1, .string x.text, .slice a2 x.kids.length e2] : List Value) ++ ys).drop ((i + 1) * 5) = ys := by
            rw [List.append_assoc, List.drop_append, hlt5, List.drop_of_length_le (by omega), List.nil_append, show (i + 1) * 5 - i * 5 = 5 by omega]; rfl
          replace hdrop := Lib.hid hdrop
          clear hih ovk2 oc12
          go_wp2_with (fail)
          go_roundw
          case rel => exact ⟨i + 1, _, F2, by omega, by go_num, hrow3, by rw [hdrop.out]; exact oc23, fun b hb => hGF b (List.mem_append_right _ hb), hndo, hs4⟩
          case measure => exact meas_nat hlt
    · obtain rfl : i = l.length := by omega
      go_wp2_with (fail)
      go_end0
      exact ⟨rfl, hsp⟩
end Go.Proofs.Ytjelmpajphajfaa
