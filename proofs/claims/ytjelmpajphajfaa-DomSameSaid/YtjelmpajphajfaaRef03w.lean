/- The reference of layer 3: weight, all. -/
import Derived.Test.YtjelmpajphajfaaRef03m
import Derived.Test.YtjelmpajphajfaaTell
import Derived.Deep.RegionHeld3
import Derived.Deep.AppendLies
namespace Go.Proofs.Ytjelmpajphajfaa
open Go.RowKit

def WeightPost (l : List Nd) (w : World) (e : Ending) (w' : World) : Prop := e = .returned (.int .i64 (M3.weight l : Int)) ∧ Below w.heap.size w w'
theorem weight_drop (l : List Nd) (i : Nat) (h : i < l.length) : M3.weight (l.take (i + 1)) = M3.weight (l.take i) + (1 + l[i].attrs.length + M3.weight l[i].kids) := by
  rw [List.take_succ_eq_append_getElem h, M3.weight_append, M3.weight_cons, M3.weight_nil]
  omega
theorem weight_take_le (l : List Nd) (i : Nat) : M3.weight (l.take i) ≤ M3.weight l := by
  have : M3.weight l = M3.weight (l.take i) + M3.weight (l.drop i) := by rw [← M3.weight_append, List.take_append_drop]
  omega

set_option maxHeartbeats 4000000 in
set_option maxRecDepth 100000 in
theorem ref03Weight (wt : Nat) : ∀ (S : Nat → Prop) (l : List Nd) (v : Value) (w : World), M3.weight l < wt → M3.weight l ≤ 1000000 → (∀ b, S b → b < w.heap.size) → RepN S w v l → Calls Try.prog 24 #[v] w (WeightPost l w) := by
  induction wt with
  | zero => intro S l v w h; omega
  | succ wt ih =>
  intro S l v w hwt hw6 hS hr
  obtain ⟨a, cap, rfl⟩ := hr.slice
  obtain ⟨_, hlc, hcm⟩ := hr.len
  have hll := M3.length_le_weight l
  replace ih := Lib.hid ih
  go_enter Try.func24, Try.ntmps24
  go_wp2_with (fail)
  go_loopw [3, 4] (fun u3 u4 wr => ∃ i : Nat, i ≤ l.length ∧ u4 = .int .i64 (i : Int) ∧ u3 = .int .i64 (M3.weight (l.take i) : Int) ∧ Below w.heap.size w wr) (fun _ u4 _ => l.length - (intOf u4).toNat)
  case atStart => exact ⟨0, by omega, rfl, by simp [M3.weight_nil], Below.refl _ _⟩
  case round =>
    obtain ⟨i, hi, rfl, rfl, hb⟩ := hrel
    have hz := hb.size
    have hwt2 := weight_take_le l i
    by_cases hlt : i < l.length
    · obtain ⟨b, off, va, vk, rfl, hSb, c0, c1, c2, c3, c4, hrv⟩ := (hr.below hS hb).at_ i hlt
      have hbl := hS b hSb
      have hwd := weight_drop l i hlt
      have hwd2 := weight_take_le l (i + 1)
      have hmem := weight_mem (List.getElem_mem hlt)
      generalize l[i] = x at *
      obtain ⟨a1, e1, rfl⟩ := hrv.at_.slice
      obtain ⟨a2, e2, rfl⟩ := hrv.kids.slice
      have hih := Lib.hid (fun W (hW : Below wr.heap.size wr W) => ih.out S x.kids (.slice a2 x.kids.length e2) W (by omega) (by omega) (fun b h => by have := hS b h; have := hW.size; omega) (RepN.below (w := wr) (B := wr.heap.size) hrv.kids (fun b h => by have := hS b h; omega) hW))
      have hI1 : (i : Int) < (l.length : Int) := by omega
      have hI0 : (0 : Int) ≤ (i : Int) := by omega
      clear hrv ih c0 c1 c3
      have hs2 : Hid (IntKind.i64.wrap (IntKind.i64.wrap (IntKind.i64.wrap ((M3.weight (l.take i) : Int) + 1) + (x.attrs.length : Int)) + (M3.weight x.kids : Int)) = (M3.weight (l.take (i + 1)) : Int)) := by
        show _ = _
        rw [show IntKind.i64.wrap ((M3.weight (l.take i) : Int) + 1) = (M3.weight (l.take i) : Int) + 1 from IntWalk.i64_in _ ⟨by omega, by omega⟩, show IntKind.i64.wrap ((M3.weight (l.take i) : Int) + 1 + (x.attrs.length : Int)) = (M3.weight (l.take i) : Int) + 1 + (x.attrs.length : Int) from IntWalk.i64_in _ ⟨by omega, by omega⟩, IntWalk.i64_in _ ⟨by omega, by omega⟩]
        omega
      generalize hN1 : M3.weight (l.take (i + 1)) = N1 at *
      replace hN1 := Lib.hid hN1
      generalize M3.weight (l.take i) = N0 at *
      replace hwd := Lib.hid hwd
      go_wp2_with (fail)
      go_region_held3 (fun w' => w'.cell? ⟨b, off + i * 5 + 2, none⟩ = some (.slice a1 x.attrs.length e1) ∧ w'.cell? ⟨b, off + i * 5 + 4, none⟩ = some (.slice a2 x.kids.length e2))
        (first
          | go_keep
          | (go_split_ands
             refine ⟨?_, ?_⟩
             · (rw [hb5.cell (p := ⟨b, off + i * 5 + 2, none⟩) (by simp; omega)]; assumption)
             · (rw [hb5.cell (p := ⟨b, off + i * 5 + 4, none⟩) (by simp; omega)]; assumption)))
        (first
          | (go_at_call 24; refine (hih.out _ ((Below.refl _ wr).drew)).mono ?_; rintro e w5 ⟨rfl, hb5⟩))
      go_wp2_with (fail)
      go_roundw
      case rel => exact ⟨i + 1, by omega, by go_num, by rw [hN1.out, hs2.out], hb.trans ((((Below.refl _ wr).drew).trans hb5).mono hz)⟩
      case measure => exact meas_nat hlt
    · obtain rfl : i = l.length := by omega
      rw [List.take_length]
      go_wp2_with (fail)
      go_ret
      exact ⟨rfl, hb⟩

theorem all_append (a b : List Nd) : M3.all (a ++ b) = M3.all a ++ M3.all b := by
  induction a with
  | nil => rw [M3.all_nil]; rfl
  | cons x r ih => rw [List.cons_append, M3.all_cons, M3.all_cons, ih]; simp
theorem all_take (l : List Nd) (i : Nat) (h : i < l.length) : M3.all (l.take (i + 1)) = M3.all (l.take i) ++ [l[i]] ++ M3.all l[i].kids := by
  rw [List.take_succ_eq_append_getElem h, all_append, M3.all_cons, M3.all_nil]
  simp
theorem all_take_len (l : List Nd) (i : Nat) : (M3.all (l.take i)).length ≤ M3.weight l := Nat.le_trans (M3.all_len _) (weight_take_le l i)
theorem cellsV_ones {L : List NV} (h : ∀ b ∈ L, b.ok) : ∀ u ∈ cellsV L, u.oneCell' = true := by
  intro u hu
  obtain ⟨b, hb, hu⟩ := List.mem_flatMap.1 hu
  obtain ⟨⟨a1, c1, h1⟩, a2, c2, h2⟩ := h b hb
  simp [NV.cells, h1, h2] at hu
  rcases hu with rfl | rfl | rfl | rfl | rfl <;> rfl
/-- A row of the call's own, what stands in it shared with what came in. -/
def SharePost (S : Nat → Prop) (l : List Nd) (w : World) (e : Ending) (w' : World) : Prop := ∃ v' L, e = .returned v' ∧ L.map NV.x = l ∧ w'.ownsRow w.heap.size 28 5 v' L.length (cellsV L) ∧ (∀ b ∈ L, RepV S w b.x b.va b.vk) ∧ Below w.heap.size w w'

set_option maxHeartbeats 4000000 in
set_option maxRecDepth 100000 in
theorem ref03All (wt : Nat) : ∀ (S : Nat → Prop) (l : List Nd) (v : Value) (w : World), M3.weight l < wt → M3.weight l ≤ 1000000 → (∀ b, S b → b < w.heap.size) → RepN S w v l → Calls Try.prog 25 #[v] w (SharePost S (M3.all l) w) := by
  induction wt with
  | zero => intro S l v w h; omega
  | succ wt ih =>
  intro S l v w hwt hw6 hS hr
  obtain ⟨a, cap, rfl⟩ := hr.slice
  obtain ⟨_, hlc, hcm⟩ := hr.len
  have hll := M3.length_le_weight l
  replace ih := Lib.hid ih
  go_enter Try.func25, Try.ntmps25
  go_wp2_with (fail)
  go_loopw [3, 4] (fun u3 u4 wr => ∃ (i : Nat) (A : List NV), i ≤ l.length ∧ u4 = .int .i64 (i : Int) ∧ Hid (A.map NV.x = M3.all (l.take i)) ∧ wr.ownsRow w.heap.size 28 5 u3 A.length (cellsV A) ∧ Hid (∀ b ∈ A, RepV S w b.x b.va b.vk) ∧ Below w.heap.size w wr) (fun _ u4 _ => l.length - (intOf u4).toNat)
  case atStart => exact ⟨0, [], by omega, rfl, by show _ = _; simp [M3.all_nil], World.ownsRow_nil _ _ _ _, Lib.hid (fun b hb => by cases hb), Below.refl _ _⟩
  case round =>
    obtain ⟨i, A, hi, rfl, hA, hown, hrA, hb⟩ := hrel
    have hz := hb.size
    by_cases hlt : i < l.length
    · have hr1 := hr.below hS hb
      obtain ⟨b, off, va, vk, rfl, hSb, c0, c1, c2, c3, c4, hrv⟩ := hr1.at_ i hlt
      have hbl := hS b hSb
      have hat := all_take l i hlt
      have hl1 := all_take_len l (i + 1)
      have hmem := weight_mem (List.getElem_mem hlt)
      have hAl : A.length = (M3.all (l.take i)).length := by rw [← hA.out, List.length_map]
      have hxw : RepV S w l[i] va vk ∧ w.cell? ⟨b, off + i * 5 + 4, none⟩ = some vk := by
        obtain ⟨b', off', va', vk', e, _, _, _, q2, _, q4, hv⟩ := hr.at_ i hlt
        cases e
        have e2 := (World.cell?_of_block (a := ⟨b, off + i * 5 + 2, none⟩) (hb.block b hbl)).symm.trans c2
        have e4 := (World.cell?_of_block (a := ⟨b, off + i * 5 + 4, none⟩) (hb.block b hbl)).symm.trans c4
        rw [q2] at e2
        rw [q4] at e4
        cases e2
        cases e4
        exact ⟨hv, q4⟩
      obtain ⟨hxw, q4⟩ := hxw
      replace q4 := Lib.hid q4
      rw [hat, List.length_append, List.length_append] at hl1
      generalize l[i] = x at *
      obtain ⟨a1, e1, rfl⟩ := hrv.at_.slice
      obtain ⟨a2, e2, rfl⟩ := hrv.kids.slice
      have hokx : NV.ok ⟨x, .slice a1 x.attrs.length e1, .slice a2 x.kids.length e2⟩ := ⟨⟨_, _, rfl⟩, _, _, rfl⟩
      have hih := Lib.hid (fun W (hW : Below w.heap.size w W) => ih.out S x.kids (.slice a2 x.kids.length e2) W (by omega) (by omega) (fun b h => by have := hS b h; have := hW.size; omega) (hxw.kids.below hS hW))
      have hI1 : (i : Int) < (l.length : Int) := by omega
      have hI0 : (0 : Int) ≤ (i : Int) := by omega
      have hl2 : A.length + 1 + (M3.all x.kids).length ≤ 1000000 := by simp at hl1; omega
      clear hrv ih hl1 hAl hr1
      replace hat := Lib.hid hat
      go_wp2_with (at_builtin; refine wpList_appK _ (x.cells (.slice a1 x.attrs.length e1) (.slice a2 x.kids.length e2)) 5 rfl _ _ 22 28 rfl w.heap.size Try.underlying22 infoN rfl (by omega) u3 A.length (cellsV A) rfl hown _ rfl rfl rfl (five_one _ _ _ _ _ _ _ _ _) (by omega) (by omega) (by omega) ?_; intro g cp w2 hown2 hgrow2 hat2; have hb2 := below_own hb hown hgrow2 hz (Nat.le_refl _); have r4 := (hb2.cell (p := ⟨b, off + i * 5 + 4, none⟩) hbl).trans q4.out)
      have hz2 := hb2.size
      have hA3 : w2.ownsRow w.heap.size 28 5 (.slice (some ⟨g, 0, none⟩) (A.length + 1) cp) (A.length + 1) (cellsV (A ++ [(⟨x, .slice a1 x.attrs.length e1, .slice a2 x.kids.length e2⟩ : NV)])) := by rw [cellsV_snoc]; exact hown2
      have hlX : (A ++ [(⟨x, .slice a1 x.attrs.length e1, .slice a2 x.kids.length e2⟩ : NV)]).length = A.length + 1 := by simp
      clear hown2 hat2
      refine (hih.out w2 hb2).mono ?_
      rintro e w3 ⟨v3, L3, rfl, hm3, hown3, hr3, hb3⟩
      have hz3 := hb3.size
      have hL3 : L3.length = (M3.all x.kids).length := by rw [← hm3, List.length_map]
      have hA4 := own_below hA3 hb3
      have hone := cellsV_ones (fun b hb => (hr3 b hb).ok)
      have hrow3 := Row.own hown3 (S := fun _ => True) (fun _ _ => trivial)
      have hl4 : A.length + 1 + L3.length ≤ 1000000 := by omega
      have hb13 : Below w.heap.size w w3 := hb2.trans (hb3.mono hz2)
      replace hr3 := Lib.hid hr3
      clear hih hA3 hown3 r4
      go_wp2_with (at_builtin; refine wpList_appRow _ rfl _ _ 22 28 rfl w.heap.size 5 Try.underlying22 infoN rfl (by omega) _ (A.length + 1) (cellsV (A ++ [(⟨x, .slice a1 x.attrs.length e1, .slice a2 x.kids.length e2⟩ : NV)])) rfl hA4 _ _ L3.length (cellsV L3) rfl hrow3 hone (by omega) (by omega) (by omega) ?_; intro v5 w5 hown5 hgrow5)
      have hb5 : Below w.heap.size w w5 := below_own hb13 hA4 hgrow5 (by omega) (Nat.le_refl _)
      have hown6 : w5.ownsRow w.heap.size 28 5 v5 (A ++ [(⟨x, .slice a1 x.attrs.length e1, .slice a2 x.kids.length e2⟩ : NV)] ++ L3).length (cellsV (A ++ [(⟨x, .slice a1 x.attrs.length e1, .slice a2 x.kids.length e2⟩ : NV)] ++ L3)) := by
        rw [cellsV_append, List.length_append, hlX]; exact hown5
      clear hown5 hgrow5 hrow3 hone
      go_roundw
      case rel =>
        refine ⟨i + 1, A ++ [(⟨x, .slice a1 x.attrs.length e1, .slice a2 x.kids.length e2⟩ : NV)] ++ L3, by omega, by go_num, ?_, hown6, Lib.hid (fun b hb' => ?_), hb5⟩
        · show _ = _
          rw [List.map_append, List.map_append, hA.out, hm3, hat.out]; rfl
        · rcases List.mem_append.1 hb' with h | h
          · rcases List.mem_append.1 h with h | h
            · exact hrA.out b h
            · simp at h; subst h; exact hxw
          · exact RepV.keep (w := w2) (hr3.out b h) (fun c hc => (hb2.block c (hS c hc)).symm)
      case measure => exact meas_nat hlt
    · obtain rfl : i = l.length := by omega
      rw [List.take_length] at hA
      go_wp2_with (fail)
      go_ret
      exact ⟨u3, A, rfl, hA.out, hown, hrA.out, hb⟩
end Go.Proofs.Ytjelmpajphajfaa
