/- Layer 3: merged nodes are the document's, and merged again the same. -/
import Derived.Test.YtjelmpajphajfaaDomM4
import Derived.Test.YtjelmpajphajfaaRef03s
import Derived.Test.YtjelmpajphajfaaSmall3
namespace Go.Proofs.Ytjelmpajphajfaa
open Go.RowKit

theorem weight_push (out : List Nd) (x : Nd) : M3.weight (M3.push out x) ≤ M3.weight out + M3.weight [x] := by
  cases h : M3.bareB x
  · rcases List.eq_nil_or_concat out with rfl | ⟨o, y, rfl⟩
    · rw [M3.push_none h]; omega
    · rw [List.concat_eq_append, M3.push_snoc h]
      split
      · rw [M3.weight_append, M3.weight_append]
        have : M3.weight [M3.withText y (M3.cat y.text x.text)] = M3.weight [y] := by
          rw [M3.weight_cons, M3.weight_cons, M3.withText_attrs, M3.withText_kids]
        omega
      · rw [M3.weight_append]; omega
  · rw [M3.push_bare h]; omega
theorem weight_merge (l : List Nd) : M3.weight (M3.merge l) ≤ M3.weight l := by
  have key : ∀ (l out : List Nd), M3.weight (l.foldl M3.push out) ≤ M3.weight out + M3.weight l := by
    intro l
    induction l with
    | nil => intro out; rw [M3.weight_nil]; exact Nat.le_refl _
    | cons x r ih =>
      intro out
      have h1 := ih (M3.push out x)
      have h2 := weight_push out x
      have h3 : M3.weight (x :: r) = M3.weight [x] + M3.weight r := by rw [← List.singleton_append, M3.weight_append]
      rw [List.foldl_cons, h3]
      omega
  have := key l []
  rw [M3.weight_nil] at this
  simpa [M3.merge] using this
theorem txtN_push (out : List Nd) (x : Nd) : txtN (M3.push out x) ≤ txtN out + x.text.size := by
  cases h : M3.bareB x
  · rcases List.eq_nil_or_concat out with rfl | ⟨o, y, rfl⟩
    · rw [M3.push_none h, txtN_cons]; exact Nat.le_of_eq (by rw [Nat.add_comm])
    · rw [List.concat_eq_append, M3.push_snoc h]
      split
      · rw [txtN_append, txtN_append, txtN_cons, txtN_cons, M3.withText_text, cat_size]
        have : txtN [] = 0 := rfl
        omega
      · rw [txtN_append, txtN_cons]
        have : txtN [] = 0 := rfl
        omega
  · rw [M3.push_bare h]; omega
theorem txtN_merge (l : List Nd) : txtN (M3.merge l) ≤ txtN l := by
  have key : ∀ (l out : List Nd), txtN (l.foldl M3.push out) ≤ txtN out + txtN l := by
    intro l
    induction l with
    | nil => intro out; exact Nat.le_add_right _ _
    | cons x r ih =>
      intro out
      have h1 := ih (M3.push out x)
      have h2 := txtN_push out x
      rw [List.foldl_cons, txtN_cons]
      omega
  have := key l []
  have h0 : txtN ([] : List Nd) = 0 := rfl
  rw [h0] at this
  simpa [M3.merge] using this
theorem txtN_fit (l : List Nd) (b : Nat) (h : ∀ x ∈ l, x.text.size ≤ b) : txtN l ≤ l.length * b := by
  induction l with
  | nil => exact Nat.zero_le _
  | cons x r ih =>
    rw [txtN_cons, List.length_cons, Nat.add_mul]
    have h1 := h x (by simp)
    have h2 := ih (fun y hy => h y (by simp [hy]))
    omega
theorem cut_text (l : List Nd) (m : Nat) : ∀ x ∈ (M3.cut l m).1, x.text.size ≤ 30 := by
  induction l generalizing m with
  | nil => intro x hx; rw [M3.cut_nil] at hx; cases hx
  | cons y r ih =>
    intro x hx
    cases m with
    | zero => rw [M3.cut_zero] at hx; cases hx
    | succ m =>
      rw [M3.cut_cons] at hx
      rcases List.mem_cons.1 hx with rfl | hx
      · exact few_size _
      · exact ih _ x hx
theorem fewN_txt (l : List Nd) : txtN (fewN l) ≤ 7200 := by
  have h1 := txtN_fit (fewN l) 30 (cut_text l 40)
  have h2 := M3.length_le_weight (fewN l)
  have h3 := fewN_weight l
  omega

/-- Nodes that a call hands back, wherever they stand. -/
def RepPost (l : List Nd) (w : World) (e : Ending) (w' : World) : Prop := ∃ v', e = .returned v' ∧ RepN (fun b => b < w'.heap.size) w' v' l ∧ Below w.heap.size w w'
theorem ref03Merge (S : Nat → Prop) (v : Value) (l : List Nd) (w : World) (hS : ∀ b, S b → b < w.heap.size) (hr : RepN S w v l) (hl : l.length ≤ 1000000) (ht : txtN l ≤ 1073741824) :
    Calls Try.prog 28 #[v] w (RepPost (M3.merge l) w) := by
  obtain ⟨xs, hrow, hrc⟩ := hr
  obtain ⟨L, rfl, rfl, hL⟩ := RepC.nv _ _ hrc
  rw [List.length_map] at hrow hl
  refine (ref03MergeV S v L w hS hrow (fun b hb => (hL b hb).ok) hl (by rw [txtV_map]; exact ht)).mono ?_
  rintro e w1 ⟨v1, rfl, hown, hb⟩
  refine ⟨v1, rfl, ?_, hb⟩
  rw [← mergeV_map]
  refine ⟨cellsV (mergeV L), by rw [List.length_map]; exact Row.own hown (fun g hg => (hown.lt g hg).2), RepC.of_nv ?_⟩
  have hP : ∀ b ∈ mergeV L, RepV (fun b => b < w1.heap.size) w1 b.x b.va b.vk := by
    have key : ∀ (l out : List NV), (∀ b ∈ l, RepV S w b.x b.va b.vk) → (∀ b ∈ out, RepV S w b.x b.va b.vk) → ∀ b ∈ l.foldl pushV out, RepV S w b.x b.va b.vk := by
      intro l
      induction l with
      | nil => intro out _ ho; exact ho
      | cons x r ih =>
        intro out hl ho
        rw [List.foldl_cons]
        refine ih _ (fun z hz => hl z (by simp [hz])) ?_
        have hx := hl x (by simp)
        cases hb : bareV x
        · rcases List.eq_nil_or_concat out with rfl | ⟨o, y, rfl⟩
          · rw [pushV_nil hb]; simpa using hx
          · rw [List.concat_eq_append] at ho ⊢
            rw [pushV_snoc hb]
            have hy := ho y (by simp)
            split
            · intro z hz
              rcases List.mem_append.1 hz with hz | hz
              · exact ho z (by simp [hz])
              · simp at hz; subst hz
                exact ⟨by show Row _ _ _ _ (M3.withText y.x _).attrs.length (cellsA (M3.withText y.x _).attrs); rw [M3.withText_attrs]; exact hy.1, by show RepN _ _ _ (M3.withText y.x _).kids; rw [M3.withText_kids]; exact hy.2⟩
            · intro z hz
              rcases List.mem_append.1 hz with hz | hz
              · exact ho z hz
              · simp at hz; subst hz; exact hx
        · rw [pushV_bare hb]; exact ho
    exact fun b hb' => ((key L [] hL (fun b h => by cases h) b hb').below hS hb).mono (fun c hc => by have := hS c hc; have := hb.size; omega)
  exact hP

set_option maxHeartbeats 2000000 in
set_option maxRecDepth 100000 in
theorem law03DomMerges (S : Nat → Prop) (v : Value) (l : List Nd) (w : World) (hS : ∀ b, S b → b < w.heap.size) (hr : RepN S w v l) (hsz : SzN l) :
    Calls Try.prog 5 #[v] w fun e w' => e = .returned (.bool true) ∧ Below w.heap.size w w' := by
  have hF := Lib.hid (ref03Few S v l w hS hr hsz)
  have hfit := Lib.hid (fewN_fit l)
  have hwt := fewN_weight l
  have htx := fewN_txt l
  obtain ⟨a, cap, rfl⟩ := hr.slice
  clear hr hsz hS
  go_enter Try.func5, Try.ntmps5
  go_wp2_with (fail)
  refine hF.out.mono ?_
  rintro e w1 ⟨v1, rfl, hm, hb1⟩
  have hrep := hm.rep
  generalize fewN l = L at *
  clear hF hm
  have hz1 := hb1.size
  have hL := M3.length_le_weight L
  have hM := Lib.hid (domMerge _ v1 L w1 (fun b h => h.2) hrep (by omega) (by omega))
  obtain ⟨a1, c1, rfl⟩ := hrep.slice
  replace hrep := Lib.hid hrep
  go_wp2_with (fail)
  refine hM.out.mono ?_
  rintro e w2 ⟨v2, rfl, hfr, hb2⟩
  have hrm := hfr.rep
  have hz2 := hb2.size
  have hwm := weight_merge L
  have htm := txtN_merge L
  have hmm := Lib.hid (M3.merge_merge L)
  have hR := Lib.hid (ref03Merge _ _ L w2 (fun b h => by have := h.2; omega) (hrep.out.below (fun b h => h.2) hb2) (by omega) (by omega))
  have hsn := Lib.hid (M3.sameN_self (M3.merge L))
  generalize M3.merge L = M at *
  obtain ⟨a2, c2, rfl⟩ := hrm.slice
  clear hM hfr
  replace hrm := Lib.hid hrm
  go_wp2_with (fail)
  refine hR.out.mono ?_
  rintro e w3 ⟨v3, rfl, hr3, hb3⟩
  have hz3 := hb3.size
  have hrm3 := hrm.out.below (fun b h => h.2) hb3
  have hSm := Lib.hid (ref03Same (M3.weight M + 1) (fun b => b < w3.heap.size) M M _ v3 w3 (by omega) (fun b h => h) (hrm3.mono (fun b h => by have := h.2; omega)) hr3)
  obtain ⟨a3, c3, rfl⟩ := hr3.slice
  clear hR hr3 hrm3
  rw [hsn.out] at hSm
  go_wp2_with (fail)
  refine hSm.out.mono ?_
  rintro e w4 ⟨rfl, hb4⟩
  have hz4 := hb4.size
  have hb24 : Below w2.heap.size w2 w4 := hb3.trans (hb4.mono hz3)
  have hrm4 := hrm.out.below (fun b h => h.2) hb24
  have hM4 := Lib.hid (domMerge _ _ M w4 (fun b h => by have := h.2; omega) hrm4 (by omega) (by omega))
  clear hSm hrm4
  go_wp2_with (fail)
  refine hM4.out.mono ?_
  rintro e w5 ⟨v5, rfl, hf5, hb5⟩
  have hz5 := hb5.size
  have hb25 : Below w2.heap.size w2 w5 := hb24.trans (hb5.mono (by omega))
  have hrm5 := hrm.out.below (fun b h => h.2) hb25
  rw [hmm.out] at hf5
  have hr5 := hf5.rep
  have hSm5 := Lib.hid (domSame (M3.weight M + 1) (fun b => b < w5.heap.size) M M v5 _ w5 (by omega) (fun b h => h) (hr5.mono (fun b h => h.2)) (hrm5.mono (fun b h => by have := h.2; omega)))
  obtain ⟨a5, c5, rfl⟩ := hr5.slice
  rw [hsn.out] at hSm5
  clear hM4 hf5 hr5 hrm5
  go_wp2_with (fail)
  refine hSm5.out.mono ?_
  rintro e w6 ⟨rfl, hb6⟩
  go_wp2_with (fail)
  refine (lives03 _).mono ?_
  rintro e w7 ⟨rfl, hb7⟩
  have hbb : Below w.heap.size w w7 := (((hb1.trans (hb2.mono hz1)).trans (hb25.mono (by omega))).trans (hb6.mono (by omega))).trans (hb7.mono (by have := hb6.size; omega))
  go_wp2
  go_ret
  exact ⟨rfl, hbb⟩
end Go.Proofs.Ytjelmpajphajfaa
