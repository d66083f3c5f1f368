/- Texts joined: Ref06e, Law06s, Law08j. -/
import Derived.Test.YteefodibpjgicaaGreatRows
import Derived.Test.YteefodibpjgicaaGreatJ1
import Derived.Test.YteefodibpjgicaaGreatJ2
import Derived.Test.YteefodibpjgicaaGreatJ3
import Derived.Test.YteefodibpjgicaaGreatJ4
import Derived.Test.YteefodibpjgicaaGreatJ5
import Derived.Test.YteefodibpjgicaaGreatJ6
import Derived.Test.YteefodibpjgicaaGreatJ7
import Derived.Test.YteefodibpjgicaaGreatJ8
import Derived.Test.YteefodibpjgicaaGreatJ9
import Derived.Test.YteefodibpjgicaaGreatJ10
namespace Go.Proofs.YteefodibpjgicaaGreat
open Go.RowKit
theorem steadyQ_append (q : Nd → Bool) (a b : List Nd) : M6.steadyQ q (a ++ b) = M6.steadyQ q a ++ M6.steadyQ q b := by
  induction a with
  | nil => rw [M6.steadyQ_nil]; rfl
  | cons x r ih => rw [List.cons_append, M6.steadyQ_cons, M6.steadyQ_cons, ih, List.append_assoc]
theorem steadyQ_take (l : List Nd) (i : Nat) (h : i < l.length) : M6.steadyQ (fun _ => true) (l.take (i + 1)) = M6.steadyQ (fun _ => true) (l.take i) ++ (if M6.remB l[i] = true then [] else [M6.oneN l[i]]) := by
  rw [List.take_succ_eq_append_getElem h, steadyQ_append, M6.steadyQ_cons, M6.steadyQ_nil, List.append_nil, Bool.true_and]
  cases M6.remB l[i] <;> rfl
theorem steady_fit (q : Nd → Bool) (l : List Nd) : (M6.steady (l.filter q)).filter q = (M3.merge (M6.steadyQ q l)).filter q := by
  unfold M6.steady
  rw [← M6.steadyQ_filter]
def Sh (S : Nat → Prop) (w0 W : World) : Nat → Prop := fun b => S b ∨ (w0.heap.size ≤ b ∧ b < W.heap.size)
def StI (S : Nat → Prop) (w0 : World) (bx : Nat) (K : Nat → List Nd) (f : Nat → Bool) (t : Nat → Value) (W : World) : Prop :=
  (f 10 = false → Below w0.heap.size w0 W ∧ ∀ j, 6 ≤ j → j ≤ 8 → f j = true → RepN (Sh S w0 W) W (t j) (K j)) ∧
  (f 10 = true → (∀ j, j < 10 → f j = true) ∧ ∃ W0, Below w0.heap.size w0 W0 ∧ RepN (Sh S w0 W0) W0 (t 8) (K 8) ∧ W = W0.setCell ⟨bx, 4, none⟩ (t 8))
section
variable {S : Nat → Prop} {w0 W : World} {bx : Nat} {K : Nat → List Nd} {f : Nat → Bool} {t : Nat → Value}
theorem StI.start (S : Nat → Prop) (w0 : World) (bx : Nat) (K : Nat → List Nd) (t : Nat → Value) : StI S w0 bx K (fun j => decide (11 ≤ j)) t w0.drew :=
  ⟨fun _ => ⟨(Below.refl _ w0).drew, fun j h6 h8 h => by simp at h; omega⟩, fun h => by simp at h⟩
theorem StI.notlast (h : StI S w0 bx K f t W) {j : Nat} (hj : j < 11) (hf : f j = false) : f 10 = false := by
  cases h10 : f 10
  · rfl
  · rcases Nat.lt_or_ge j 10 with hl | hl
    · have := (h.2 h10).1 j hl
      rw [hf] at this
      cases this
    · obtain rfl : j = 10 := by omega
      rw [h10] at hf
      cases hf
theorem StI.same (h : StI S w0 bx K f t W) (j : Nat) (v : Value) (h1 : j < 6 ∨ j = 9) : StI S w0 bx K (updF f j) (updT t j v) W := by
  refine ⟨fun e => ?_, fun e => ?_⟩
  · rw [updF_ne f (by omega)] at e
    refine ⟨(h.1 e).1, fun k h6 h8 hk => ?_⟩
    rw [updF_ne f (by omega)] at hk
    rw [updT_ne _ _ (by omega)]
    exact (h.1 e).2 k h6 h8 hk
  · rw [updF_ne f (by omega)] at e
    obtain ⟨e1, e2⟩ := h.2 e
    rw [updT_ne _ _ (by omega)]
    exact ⟨fun k hk => by unfold updF; split; rfl; exact e1 k hk, e2⟩
theorem StI.call (h : StI S w0 bx K f t W) (h10 : f 10 = false) (hS : ∀ b, S b → b < w0.heap.size) {j : Nat} (h6 : 6 ≤ j) (h8 : j ≤ 8) {W' : World} {v : Value} (hv : RepN (fun b => Sh S w0 W b ∨ (W.heap.size ≤ b ∧ b < W'.heap.size)) W' v (K j)) (hb : Below W.heap.size W W') : StI S w0 bx K (updF f j) (updT t j v) W' := by
  obtain ⟨q1, q2⟩ := h.1 h10
  have hz := q1.size
  have hz2 := hb.size
  refine ⟨fun _ => ⟨bt q1 hb, fun k k6 k8 hk => ?_⟩, fun e => ?_⟩
  · by_cases e : k = j
    · subst e
      rw [updT_same]
      refine hv.mono (fun b hb' => ?_)
      rcases hb' with (hb' | hb') | hb'
      · exact Or.inl hb'
      · exact Or.inr ⟨hb'.1, by omega⟩
      · exact Or.inr ⟨by omega, hb'.2⟩
    · rw [updF_ne f e] at hk
      rw [updT_ne _ _ e]
      refine (RepN.below (q2 k k6 k8 hk) (fun b hb' => ?_) hb).mono (fun b hb' => ?_)
      · rcases hb' with hb' | hb'
        · have := hS b hb'; omega
        · exact hb'.2
      · rcases hb' with hb' | hb'
        · exact Or.inl hb'
        · exact Or.inr ⟨hb'.1, by omega⟩
  · rw [updF_ne f (by omega), h10] at e
    cases e
theorem StI.put (h : StI S w0 bx K f t W) (h10 : f 10 = false) (hall : ∀ j, j < 10 → f j = true) (v : Value) : StI S w0 bx K (updF f 10) (updT t 10 v) (W.setCell ⟨bx, 4, none⟩ (t 8)) := by
  obtain ⟨q1, q2⟩ := h.1 h10
  refine ⟨fun e => by simp at e, fun _ => ⟨fun k hk => by unfold updF; split; rfl; exact hall k hk, W, q1, ?_, ?_⟩⟩
  · rw [updT_ne _ _ (by omega)]; exact q2 8 (by omega) (by omega) (hall 8 (by omega))
  · rw [updT_ne _ _ (by omega)]
end
def K3 (l1 l2 l3 : List Nd) (j : Nat) : List Nd := bif j == 6 then l1 else bif j == 7 then l2 else l3
def ShV (S : Nat → Prop) (B : Nat) (u : Value) (W : World) : Nat → Prop := fun c => (S c ∨ (B ≤ c ∧ c < W.heap.size)) ∧ u.ownBlock ≠ some c
theorem shv_grow {S : Nat → Prop} {B g n cap : Nat} {u : Value} {W w3 : World} {A : List NV} (hS : ∀ b, S b → b < B) (hB : B ≤ W.heap.size) (h : ∀ b ∈ A, RepV (ShV S B u W) W b.x b.va b.vk) (hgrow : W.grownBy w3 u.ownBlock) (hat : u.ownBlock = some g ∨ W.heap.size ≤ g) :
    ∀ b ∈ A, RepV (ShV S B (.slice (some ⟨g, 0, none⟩) n cap) w3) w3 b.x b.va b.vk := by
  intro b hb
  have hz := hgrow.size
  have hlt : ∀ c, ShV S B u W c → c < W.heap.size := fun c hc => by
    rcases hc.1 with hc | hc
    · have := hS c hc; omega
    · exact hc.2
  refine ((h b hb).keep (w' := w3) (fun c hc => hgrow.block c (hlt c hc) (fun e => hc.2 e.symm))).mono (fun c hc => ⟨?_, fun e => ?_⟩)
  · rcases hc.1 with hc | hc
    · exact Or.inl hc
    · exact Or.inr ⟨hc.1, by omega⟩
  · have e : g = c := by simpa [Value.ownBlock] using e
    rcases hat with h | h
    · exact hc.2 (by rw [h, e])
    · have := hlt c hc; omega
theorem shv_below {S : Nat → Prop} {B : Nat} {u : Value} {wr W : World} {A : List NV} (hS : ∀ b, S b → b < B) (hB : B ≤ wr.heap.size) (h : ∀ b ∈ A, RepV (ShV S B u wr) wr b.x b.va b.vk) (hb : Below wr.heap.size wr W) :
    ∀ b ∈ A, RepV (ShV S B u W) W b.x b.va b.vk := by
  intro b hm
  have hz := hb.size
  refine ((h b hm).below (fun c hc => ?_) hb).mono (fun c hc => ⟨?_, hc.2⟩)
  · rcases hc.1 with hc | hc
    · have := hS c hc; omega
    · exact hc.2
  · rcases hc.1 with hc | hc
    · exact Or.inl hc
    · exact Or.inr ⟨hc.1, by omega⟩
theorem ownB_ne {w : World} {B : Nat} {e : TypeId} {k n : Nat} {v : Value} {xs : List Value} (h : w.ownsRow B e k v n xs) {c : Nat} (hc : c < B ∨ w.heap.size ≤ c) : v.ownBlock ≠ some c := fun e => by
  have := h.lt c e
  omega
set_option maxHeartbeats 8000000 in
set_option maxRecDepth 100000 in
theorem ref06Steady (wt : Nat) : ∀ (S : Nat → Prop) (v : Value) (l : List Nd) (w : World), M3.weight l < wt → M3.weight l ≤ 1000000 → FitN l → dtN l ≤ 268435456 → (∀ b, S b → b < w.heap.size) → RepN S w v l →
    Calls Tryz.prog 39 #[v] w (ShrPost S (M6.steady l) w) := by
  induction wt with
  | zero => intro S v l w h; omega
  | succ wt ih =>
  intro S v l w hwt hw6 hfit hdt hS hr
  obtain ⟨a, cap, rfl⟩ := hr.slice
  obtain ⟨_, hlc, hcm⟩ := hr.len
  have hll := M3.length_le_weight l
  replace ih := Lib.hid ih
  have h0 : Hid (([] : List NV).map NV.x = M6.steadyQ (fun _ => true) (l.take 0)) := by show _ = _; rw [List.take_zero, M6.steadyQ_nil]; rfl
  replace hfit := Lib.hid hfit
  obtain ⟨wo, rfl⟩ : ∃ wo : World, wo = w := ⟨_, rfl⟩
  go_enter Tryz.func39, Tryz.ntmps39
  go_wp2_with fail
  go_loopw [3, 4, 5] (fun u3 u4 _ wr => ∃ (i : Nat) (A : List NV), i ≤ l.length ∧ u4 = .int .i64 (i : Int) ∧ Hid (A.map NV.x = M6.steadyQ (fun _ => true) (l.take i)) ∧ wr.ownsRow wo.heap.size 41 5 u3 A.length (cellsV A) ∧ (∀ b ∈ A, RepV (ShV S wo.heap.size u3 wr) wr b.x b.va b.vk) ∧ Below wo.heap.size wo wr) (fun _ u4 _ _ => l.length - (intOf u4).toNat)
  case atStart => exact ⟨0, [], by omega, rfl, h0, World.ownsRow_nil _ _ _ _, (fun b h => nomatch h), Below.refl _ _⟩
  case round =>
    obtain ⟨i, A, hi, rfl, hA, hown, hAr, hb⟩ := hrel
    have hz := hb.size
    have hAl : A.length ≤ 1000000 := by
      have h1 : A.length = (M6.steadyQ (fun _ => true) (l.take i)).length := by rw [← hA.out, List.length_map]
      have h2 := M3.length_le_weight (M6.steadyQ (fun _ => true) (l.take i))
      have h3 := (steadyQ_sizes (l.take i) (fun _ => true)).1
      have h4 : M3.weight l = M3.weight (l.take i) + M3.weight (l.drop i) := by rw [← M3.weight_append, List.take_append_drop]
      omega
    replace hAr := Lib.hid hAr
    by_cases hlt : i < l.length
    · have hr1 := hr.below hS hb
      obtain ⟨b, off, va, vk, rfl, hSb, c0, c1, c2, c3, c4, hrv⟩ := hr1.at_ i hlt
      have hbl := hS b hSb
      have hmd := (steadyQ_take l i hlt).trans (by rw [← hA.out])
      obtain ⟨hf1, hf2⟩ := fitN_iff.1 hfit.out _ (List.getElem_mem hlt)
      have hwk := weight_le (List.getElem_mem hlt)
      have hdk := dt_mem (List.getElem_mem hlt)
      generalize l[i] = x at *
      obtain ⟨k, n, ats, tx, ks⟩ := x
      simp only [Nd.kind, Nd.name, Nd.text, Nd.attrs, Nd.kids] at c0 c1 c2 c3 c4 hwk hdk hf2
      obtain ⟨a1, e1, hva⟩ := hrv.at_.slice
      obtain ⟨a2, e2, hvk⟩ := hrv.kids.slice
      simp only [Nd.attrs, Nd.kids] at hva hvk
      subst hva
      subst hvk
      have hH := Lib.hid (fun W => ref06has tx ⟨#[45, 45, 62]⟩ W (by have := hf1.2.1; have h : tx.size ≤ 268435456 := this; omega) (by decide) (by decide))
      have hrm0 : M6.remB (.mk k n ats tx ks) = ((k == 3) && M6.hasB [45, 45, 62] tx.data.toList) := rfl
      clear hA hr1
      have hI0 : (0 : Int) ≤ (i : Int) := by omega
      have hI1 : (i : Int) < (l.length : Int) := by omega
      have bx := Box.new wr 41 [.int .i64 k, .string n, .slice a1 ats.length e1, .string tx, .slice a2 ks.length e2]
      have hbx : Below wr.heap.size wr (wr.alloc (.cells #[.int .i64 k, .string n, .slice a1 ats.length e1, .string tx, .slice a2 ks.length e2] 41)) := (Below.refl _ wr).alloc (Nat.le_refl _) _
      have hsz : (wr.alloc (.cells #[.int .i64 k, .string n, .slice a1 ats.length e1, .string tx, .slice a2 ks.length e2] 41)).heap.size = wr.heap.size + 1 := by simp
      cases hk1 : (k == 1)
      · -- no element
        have hone : M6.oneN (.mk k n ats tx ks) = .mk k n ats tx ks := by unfold M6.oneN; rw [if_neg (by show ¬ k = 1; simpa using hk1)]
        rw [hone] at hmd
        clear hone
        cases hrm : M6.remB (.mk k n ats tx ks)
        · rw [hrm, if_neg Bool.false_ne_true] at hmd
          have hnext : Hid ((A ++ [(⟨.mk k n ats tx ks, .slice a1 ats.length e1, .slice a2 ks.length e2⟩ : NV)]).map NV.x = M6.steadyQ (fun _ => true) (l.take (i + 1))) := by show _ = _; rw [hmd, List.map_append]; rfl
          clear hmd
          replace hsz := Lib.hid hsz
          cases hk3 : (k == 3)
          · have hbW := hbx
            replace hAr := hAr.out
            clear hH bx
            have hz5 := hbW.size
            have hown5 := own_below3 hown (hbW)
            have hA5 := Lib.hid (shv_below hS hz hAr hbW)
            have hbo := bt hb hbW
            have hzo := hbo.size
            replace hAr := Lib.hid hAr
            go_wp2_with (at_builtin; refine wpList_appK _ [.int .i64 k, .string n, .slice a1 ats.length e1, .string tx, .slice a2 ks.length e2] 5 rfl _ _ 25 41 rfl wo.heap.size Tryz.underlying25 infoN rfl (by omega) _ A.length (cellsV A) rfl hown5 (wr.heap.size + 1) hsz.out (by rfl) rfl (five_one _ _ _ _ _ _ _ _ _) (by omega) (by omega) hzo ?_; intro g cp w6 hown6 hgrow6 hat6)
            have hb6 := below_own hbo hown5 hgrow6 hzo (Nat.le_refl _)
            have hA6 := shv_grow (n := A.length + 1) (cap := cp) hS hzo hA5.out hgrow6 hat6
            have hx6 := shv_grow (A := [(⟨.mk k n ats tx ks, .slice a1 ats.length e1, .slice a2 ks.length e2⟩ : NV)]) (n := A.length + 1) (cap := cp) hS hzo (fun b hb => by
              rw [List.mem_singleton] at hb
              subst hb
              exact ⟨((hrv.at_).below (fun c hc => by have := hS c hc; omega) hbW).mono (fun c hc => ⟨Or.inl hc, ownB_ne hown5 (Or.inl (hS c hc))⟩), (RepN.below hrv.kids (fun c hc => by have := hS c hc; omega) hbW).mono (fun c hc => ⟨Or.inl hc, ownB_ne hown5 (Or.inl (hS c hc))⟩)⟩) hgrow6 hat6
            have hown7 : w6.ownsRow wo.heap.size 41 5 (.slice (some ⟨g, 0, none⟩) (A.length + 1) cp) (A ++ [(⟨.mk k n ats tx ks, .slice a1 ats.length e1, .slice a2 ks.length e2⟩ : NV)]).length (cellsV (A ++ [(⟨.mk k n ats tx ks, .slice a1 ats.length e1, .slice a2 ks.length e2⟩ : NV)])) := by
              rw [cellsV_snoc, List.length_append]; exact hown6
            have hA7 : ∀ b ∈ A ++ [(⟨.mk k n ats tx ks, .slice a1 ats.length e1, .slice a2 ks.length e2⟩ : NV)], RepV (ShV S wo.heap.size (.slice (some ⟨g, 0, none⟩) (A.length + 1) cp) w6) w6 b.x b.va b.vk := fun b hb => by
              rcases List.mem_append.1 hb with hb | hb
              · exact hA6 b hb
              · exact hx6 b hb
            clear hown6 hgrow6 hat6 hA6 hx6 hown5 hA5
            replace hA7 := Lib.hid hA7
            go_roundw
            case rel => exact ⟨i + 1, A ++ [(⟨.mk k n ats tx ks, .slice a1 ats.length e1, .slice a2 ks.length e2⟩ : NV)], by omega, by go_num, hnext, hown7, hA7.out, hb6⟩
            case measure => exact meas_nat hlt
          · rw [hrm0, hk3, Bool.true_and] at hrm
            have hH := hH.out
            change ∀ W, Calls _ _ _ W fun e w' => e = .returned (.bool (M6.hasB [45, 45, 62] tx.data.toList)) ∧ W = w' at hH
            rw [hrm] at hH
            replace hH := Lib.hid hH
            go_wp2_with fail
            refine (hH.out _).mono ?_
            rintro e w2 ⟨rfl, rfl⟩
            have hbW := hbx
            replace hAr := hAr.out
            clear hH bx
            have hz5 := hbW.size
            have hown5 := own_below3 hown (hbW)
            have hA5 := Lib.hid (shv_below hS hz hAr hbW)
            have hbo := bt hb hbW
            have hzo := hbo.size
            replace hAr := Lib.hid hAr
            go_wp2_with (at_builtin; refine wpList_appK _ [.int .i64 k, .string n, .slice a1 ats.length e1, .string tx, .slice a2 ks.length e2] 5 rfl _ _ 25 41 rfl wo.heap.size Tryz.underlying25 infoN rfl (by omega) _ A.length (cellsV A) rfl hown5 (wr.heap.size + 1) hsz.out (by rfl) rfl (five_one _ _ _ _ _ _ _ _ _) (by omega) (by omega) hzo ?_; intro g cp w6 hown6 hgrow6 hat6)
            have hb6 := below_own hbo hown5 hgrow6 hzo (Nat.le_refl _)
            have hA6 := shv_grow (n := A.length + 1) (cap := cp) hS hzo hA5.out hgrow6 hat6
            have hx6 := shv_grow (A := [(⟨.mk k n ats tx ks, .slice a1 ats.length e1, .slice a2 ks.length e2⟩ : NV)]) (n := A.length + 1) (cap := cp) hS hzo (fun b hb => by
              rw [List.mem_singleton] at hb
              subst hb
              exact ⟨((hrv.at_).below (fun c hc => by have := hS c hc; omega) hbW).mono (fun c hc => ⟨Or.inl hc, ownB_ne hown5 (Or.inl (hS c hc))⟩), (RepN.below hrv.kids (fun c hc => by have := hS c hc; omega) hbW).mono (fun c hc => ⟨Or.inl hc, ownB_ne hown5 (Or.inl (hS c hc))⟩)⟩) hgrow6 hat6
            have hown7 : w6.ownsRow wo.heap.size 41 5 (.slice (some ⟨g, 0, none⟩) (A.length + 1) cp) (A ++ [(⟨.mk k n ats tx ks, .slice a1 ats.length e1, .slice a2 ks.length e2⟩ : NV)]).length (cellsV (A ++ [(⟨.mk k n ats tx ks, .slice a1 ats.length e1, .slice a2 ks.length e2⟩ : NV)])) := by
              rw [cellsV_snoc, List.length_append]; exact hown6
            have hA7 : ∀ b ∈ A ++ [(⟨.mk k n ats tx ks, .slice a1 ats.length e1, .slice a2 ks.length e2⟩ : NV)], RepV (ShV S wo.heap.size (.slice (some ⟨g, 0, none⟩) (A.length + 1) cp) w6) w6 b.x b.va b.vk := fun b hb => by
              rcases List.mem_append.1 hb with hb | hb
              · exact hA6 b hb
              · exact hx6 b hb
            clear hown6 hgrow6 hat6 hA6 hx6 hown5 hA5
            replace hA7 := Lib.hid hA7
            go_roundw
            case rel => exact ⟨i + 1, A ++ [(⟨.mk k n ats tx ks, .slice a1 ats.length e1, .slice a2 ks.length e2⟩ : NV)], by omega, by go_num, hnext, hown7, hA7.out, hb6⟩
            case measure => exact meas_nat hlt
        · rw [hrm, if_pos rfl, List.append_nil] at hmd
          rw [hrm0, Bool.and_eq_true] at hrm
          obtain ⟨hk3, hrm⟩ := hrm
          have hH := hH.out
          change ∀ W, Calls _ _ _ W fun e w' => e = .returned (.bool (M6.hasB [45, 45, 62] tx.data.toList)) ∧ W = w' at hH
          rw [hrm] at hH
          replace hH := Lib.hid hH
          replace hmd := Lib.hid hmd.symm
          go_wp2_with fail
          refine (hH.out _).mono ?_
          rintro e w2 ⟨rfl, rfl⟩
          have hA5 := Lib.hid (shv_below hS hz hAr.out hbx)
          have hown5 := own_below3 hown hbx
          have hbo := bt hb hbx
          go_wp2_with fail
          go_roundw
          case rel => exact ⟨i + 1, A, by omega, by go_num, hmd, hown5, hA5.out, hbo⟩
          case measure => exact meas_nat hlt
      · -- an element
        obtain rfl : k = 1 := by simpa using hk1
        have hrm : M6.remB (.mk 1 n ats tx ks) = false := rfl
        rw [hrm, if_neg Bool.false_ne_true] at hmd
        have hone : M6.oneN (.mk 1 n ats tx ks) = .mk 1 n ats tx ((M6.steady (ks.filter (M6.fitsB n))).filter (M6.fitsB n)) := by
          rw [steady_fit]
          rfl
        rw [hone] at hmd
        clear hone hrm hrm0
        have hwf := weight_filter (M6.fitsB n) ks
        have hdf := dt_filter (M6.fitsB n) ks
        have hff := fit_filter (M6.fitsB n) hf2
        have hsf := fit_steady hff (by omega)
        obtain ⟨hs1, hs2⟩ := steady_sizes (ks.filter (M6.fitsB n))
        have hlk := M3.length_le_weight ks
        have hls := M3.length_le_weight (M6.steady (ks.filter (M6.fitsB n)))
        have hn6 : n.size ≤ 268435456 := hf1.1
        have hkr : RepN S wr (.slice a2 ks.length e2) ks := hrv.kids
        have hF1 := Lib.hid (fun W (v : Value) (S' : Nat → Prop) (hS' : ∀ b, S' b → b < W.heap.size) (h : RepN S' W v ks) => ref06fitting S' v n ks W hS' h hf2 (by omega) hn6)
        have hF2 := Lib.hid (fun W (v : Value) (S' : Nat → Prop) (hS' : ∀ b, S' b → b < W.heap.size) (h : RepN S' W v (ks.filter (M6.fitsB n))) => ih.out S' v (ks.filter (M6.fitsB n)) W (by omega) (by omega) hff (by omega) hS' h)
        have hF3 := Lib.hid (fun W (v : Value) (S' : Nat → Prop) (hS' : ∀ b, S' b → b < W.heap.size) (h : RepN S' W v (M6.steady (ks.filter (M6.fitsB n)))) => ref06fitting S' v n (M6.steady (ks.filter (M6.fitsB n))) W hS' h hsf (by omega) hn6)
        generalize hl3 : (M6.steady (ks.filter (M6.fitsB n))).filter (M6.fitsB n) = l3 at *
        generalize M6.steady (ks.filter (M6.fitsB n)) = l2 at *
        generalize ks.filter (M6.fitsB n) = l1 at *
        clear hwf hdf hff hsf hs1 hs2 hls hl3
        go_wp2_with fail
        obtain ⟨w0, hw0⟩ : ∃ W, wr.alloc (.cells #[.int .i64 1, .string n, .slice a1 ats.length e1, .string tx, .slice a2 ks.length e2] 41) = W := ⟨_, rfl⟩
        change Box (wr.alloc (.cells #[.int .i64 1, .string n, .slice a1 ats.length e1, .string tx, .slice a2 ks.length e2] 41)) _ _ _ at bx
        rw [hw0] at bx hbx hsz ⊢
        clear hw0
        have p1 := bx.cell (i := 1) rfl
        have p4 := bx.cell (i := 4) rfl
        have f4 := bx.free 4
        have hSw : ∀ b, S b → b < w0.heap.size := fun b hb => by have := hS b hb; omega
        have hnext : ∀ A8 C8, Hid ((A ++ [(⟨.mk 1 n ats tx l3, .slice a1 ats.length e1, .slice A8 l3.length C8⟩ : NV)]).map NV.x = M6.steadyQ (fun _ => true) (l.take (i + 1))) := fun _ _ => by show _ = _; rw [hmd, List.map_append]; rfl
        clear hmd
        refine wp_region_known (n := 11) ([some (.pointer (some ⟨wr.heap.size, 1, none⟩)), some (.string n), some (.pointer (some ⟨wr.heap.size, 1, none⟩)), some (.string n), some (.pointer (some ⟨wr.heap.size, 4, none⟩)), some (.slice a2 ks.length e2), none, none, none, some (.pointer (some ⟨wr.heap.size, 4, none⟩)), none] : List (Option Value)) (fun t => ⟨#[Value.slice (some ⟨b, off, none⟩) l.length cap, undef, Value.slice none 0 0, u3, Value.int IntKind.i64 (i : Int), Value.pointer (some ⟨wr.heap.size, 0, none⟩), Value.int IntKind.i64 (i : Int), Value.slice (some ⟨b, off, none⟩) l.length cap, Value.int IntKind.i64 (l.length : Int), Value.bool true, u10, u11, Value.slice (some ⟨b, off, none⟩) l.length cap, Value.int IntKind.i64 (i : Int), Value.pointer (some ⟨b, off + i * 5, none⟩), Value.agg #[Value.int IntKind.i64 1, Value.string n, Value.slice a1 ats.length e1, Value.string tx, Value.slice a2 ks.length e2], Value.pointer (some ⟨wr.heap.size, 0, none⟩), Value.int IntKind.i64 1, Value.bool false, Value.bool false, undef, undef, undef, Value.bool false, Value.pointer (some ⟨wr.heap.size, 0, none⟩), Value.int IntKind.i64 1, Value.bool true, t 0, t 1, t 2, t 3, t 4, t 5, t 6, t 7, t 8, t 9, u37, u38, u39, u40, undef, undef], []⟩) (fun f t W => StI S w0 wr.heap.size (K3 l1 l2 l3) f t W) (fun j => match j with | 0 => u27 | 1 => u28 | 2 => u29 | 3 => u30 | 4 => u31 | 5 => u32 | 6 => u33 | 7 => u34 | 8 => u35 | 9 => u36 | _ => undef) (by kernel_rfl) (by rfl) (by rfl) (by kernel_rfl) rfl ?i0 ?step ?fin
        case i0 =>
          exact StI.start _ _ _ _ _
        case step =>
          intro j0 hj0 f t W hfi hwt hk2 hI
          have h10 := hI.notlast hj0 hfi
          obtain ⟨hlow, hKn⟩ := hI.1 h10
          have s1 := cell_of_below hlow p1 (by omega)
          have s4 := cell_of_below hlow p4 (by omega)
          have hlz := hlow.size
          obtain rfl | rfl | rfl | rfl | rfl | rfl | rfl | rfl | rfl | rfl | rfl : j0 = 0 ∨ j0 = 1 ∨ j0 = 2 ∨ j0 = 3 ∨ j0 = 4 ∨ j0 = 5 ∨ j0 = 6 ∨ j0 = 7 ∨ j0 = 8 ∨ j0 = 9 ∨ j0 = 10 := by omega
          · -- operation 0
            clear hKn hlow hlz h10
            replace hI := Lib.hid hI
            replace hk2 := Lib.hid hk2
            clear hwt
            refine wpOp_step rfl (fun K hK => ?_)
            go_simp
            exact hK _ _ ⟨_, by simp [updT], hk2.out.at_ rfl, hI.out.same _ _ (by decide)⟩
          · -- operation 1
            have e0 : t 0 = .pointer (some ⟨wr.heap.size, 1, none⟩) := hk2 0 _ (hwt 0 (by kernel_rfl)) rfl
            clear hKn hlow hlz h10
            replace hI := Lib.hid hI
            replace hk2 := Lib.hid hk2
            clear hwt
            refine wpOp_step rfl (fun K hK => ?_)
            go_simp
            exact hK _ _ ⟨_, by simp [updT, e0], hk2.out.at_ rfl, hI.out.same _ _ (by decide)⟩
          · -- operation 2
            clear hKn hlow hlz h10
            replace hI := Lib.hid hI
            replace hk2 := Lib.hid hk2
            clear hwt
            refine wpOp_step rfl (fun K hK => ?_)
            go_simp
            exact hK _ _ ⟨_, by simp [updT], hk2.out.at_ rfl, hI.out.same _ _ (by decide)⟩
          · -- operation 3
            have e2 : t 2 = .pointer (some ⟨wr.heap.size, 1, none⟩) := hk2 2 _ (hwt 2 (by kernel_rfl)) rfl
            clear hKn hlow hlz h10
            replace hI := Lib.hid hI
            replace hk2 := Lib.hid hk2
            clear hwt
            refine wpOp_step rfl (fun K hK => ?_)
            go_simp
            exact hK _ _ ⟨_, by simp [updT, e2], hk2.out.at_ rfl, hI.out.same _ _ (by decide)⟩
          · -- operation 4
            clear hKn hlow hlz h10
            replace hI := Lib.hid hI
            replace hk2 := Lib.hid hk2
            clear hwt
            refine wpOp_step rfl (fun K hK => ?_)
            go_simp
            exact hK _ _ ⟨_, by simp [updT], hk2.out.at_ rfl, hI.out.same _ _ (by decide)⟩
          · -- operation 5
            have e4 : t 4 = .pointer (some ⟨wr.heap.size, 4, none⟩) := hk2 4 _ (hwt 4 (by kernel_rfl)) rfl
            clear hKn hlow hlz h10
            replace hI := Lib.hid hI
            replace hk2 := Lib.hid hk2
            clear hwt
            refine wpOp_step rfl (fun K hK => ?_)
            go_simp
            exact hK _ _ ⟨_, by simp [updT, e4], hk2.out.at_ rfl, hI.out.same _ _ (by decide)⟩
          · -- operation 6
            have e3 : t 3 = .string n := hk2 3 _ (hwt 3 (by kernel_rfl)) rfl
            have e5 : t 5 = .slice a2 ks.length e2 := hk2 5 _ (hwt 5 (by kernel_rfl)) rfl
            have hSh : ∀ b, Sh S w0 W b → b < W.heap.size := fun b hb => by rcases hb with hb | hb; (have := hSw b hb; omega); exact hb.2
            have hC := Lib.hid (hF1.out W (.slice a2 ks.length e2) (Sh S w0 W) hSh ((hkr.below (fun b hb => by have := hS b hb; omega) (bt hbx hlow)).mono (fun b hb => Or.inl hb)))
            clear hKn hSh
            replace hk2 := Lib.hid hk2
            replace hI := Lib.hid hI
            clear hwt
            refine wpOp_step rfl (fun K hK => ?_)
            go_simp
            refine hC.out.mono ?_
            rintro e w5 ⟨v5, rfl, hr5, hb5⟩
            exact hK _ _ ⟨v5, by simp [updT, e3, e5], hk2.out.free rfl, hI.out.call h10 hSw (by decide) (by decide) hr5 hb5⟩
          · -- operation 7
            have hSh : ∀ b, Sh S w0 W b → b < W.heap.size := fun b hb => by rcases hb with hb | hb; (have := hSw b hb; omega); exact hb.2
            have hC := Lib.hid (hF2.out W (t 6) (Sh S w0 W) hSh (hKn 6 (by decide) (by decide) (hwt 6 (by kernel_rfl))))
            clear hKn hSh
            replace hk2 := Lib.hid hk2
            replace hI := Lib.hid hI
            clear hwt
            refine wpOp_step rfl (fun K hK => ?_)
            go_simp
            refine hC.out.mono ?_
            rintro e w5 ⟨v5, rfl, hr5, hb5⟩
            exact hK _ _ ⟨v5, by simp [updT, ], hk2.out.free rfl, hI.out.call h10 hSw (by decide) (by decide) hr5 hb5⟩
          · -- operation 8
            have e1 : t 1 = .string n := hk2 1 _ (hwt 1 (by kernel_rfl)) rfl
            have hSh : ∀ b, Sh S w0 W b → b < W.heap.size := fun b hb => by rcases hb with hb | hb; (have := hSw b hb; omega); exact hb.2
            have hC := Lib.hid (hF3.out W (t 7) (Sh S w0 W) hSh (hKn 7 (by decide) (by decide) (hwt 7 (by kernel_rfl))))
            clear hKn hSh
            replace hk2 := Lib.hid hk2
            replace hI := Lib.hid hI
            clear hwt
            refine wpOp_step rfl (fun K hK => ?_)
            go_simp
            refine hC.out.mono ?_
            rintro e w5 ⟨v5, rfl, hr5, hb5⟩
            exact hK _ _ ⟨v5, by simp [updT, e1], hk2.out.free rfl, hI.out.call h10 hSw (by decide) (by decide) hr5 hb5⟩
          · -- operation 9
            clear hKn hlow hlz h10
            replace hI := Lib.hid hI
            replace hk2 := Lib.hid hk2
            clear hwt
            refine wpOp_step rfl (fun K hK => ?_)
            go_simp
            exact hK _ _ ⟨_, by simp [updT], hk2.out.at_ rfl, hI.out.same _ _ (by decide)⟩
          · -- operation 10
            have e9 : t 9 = .pointer (some ⟨wr.heap.size, 4, none⟩) := hk2 9 _ (hwt 9 (by kernel_rfl)) rfl
            have hall : ∀ j, j < 10 → f j = true := fun j hj => by
              rcases (by omega : j = 0 ∨ j = 1 ∨ j = 2 ∨ j = 3 ∨ j = 4 ∨ j = 5 ∨ j = 6 ∨ j = 7 ∨ j = 8 ∨ j = 9) with rfl | rfl | rfl | rfl | rfl | rfl | rfl | rfl | rfl | rfl <;> exact hwt _ (by kernel_rfl)
            obtain ⟨a8, c8, e8⟩ := (hKn 8 (by decide) (by decide) (hall 8 (by decide))).slice
            have hput := hI.put h10 hall undef
            rw [e8] at hput
            have f4 := (bx.below hlow (by omega)).free 4
            replace hput := Lib.hid hput
            clear hKn hall
            replace hk2 := Lib.hid hk2
            replace hI := Lib.hid hI
            clear hwt
            refine wpOp_step rfl (fun K hK => ?_)
            go_simp
            exact hK _ _ ⟨undef, by simp [updT, e8, e9], hk2.out.free rfl, hput.out⟩
        case fin =>
          intro f t W hall hk2 hI
          obtain ⟨_, W0, hb0, hr8, rfl⟩ := hI.2 (hall 10 (by omega))
          clear hk2 hall hI
          change RepN (Sh S w0 W0) W0 (t 8) l3 at hr8
          obtain ⟨a8, c8, e8⟩ := hr8.slice
          rw [e8] at hr8 ⊢
          have hb0z := hb0.size
          have hbW : Below wr.heap.size wr (W0.setCell ⟨wr.heap.size, 4, none⟩ (.slice a8 l3.length c8)) := (bt hbx hb0).setCell (p := ⟨wr.heap.size, 4, none⟩) (Nat.le_refl _) _
          have bxW := (bx.below hb0 (by omega)).set 4 (.slice a8 l3.length c8)
          simp only [List.set_cons_succ, List.set_cons_zero] at bxW
          have hsW : (W0.setCell ⟨wr.heap.size, 4, none⟩ (.slice a8 l3.length c8)).heap.size = W0.heap.size := by simp [World.setCell]
          have hk8 : RepN (ShV S wo.heap.size u3 (W0.setCell ⟨wr.heap.size, 4, none⟩ (.slice a8 l3.length c8))) (W0.setCell ⟨wr.heap.size, 4, none⟩ (.slice a8 l3.length c8)) (.slice a8 l3.length c8) l3 := by
            refine (hr8.keep (fun c hc => Below.heap_setCell W0 _ _ c (by rcases hc with hc | hc; (have := hS c hc; show c ≠ wr.heap.size; omega); (show c ≠ wr.heap.size; omega)))).mono (fun c hc => ⟨?_, ?_⟩)
            · rcases hc with hc | hc
              · exact Or.inl hc
              · exact Or.inr ⟨by omega, by rw [hsW]; exact hc.2⟩
            · rcases hc with hc | hc
              · exact ownB_ne hown (Or.inl (hS c hc))
              · exact ownB_ne hown (Or.inr (by omega))
          obtain ⟨W, hW⟩ : ∃ W, W0.setCell ⟨wr.heap.size, 4, none⟩ (.slice a8 l3.length c8) = W := ⟨_, rfl⟩
          rw [hW] at hbW bxW hk8 ⊢
          clear hW hr8 hb0 hb0z hsW
          replace hk8 := Lib.hid hk8
          have q0 := bxW.cell (i := 0) rfl
          have q1 := bxW.cell (i := 1) rfl
          have q2 := bxW.cell (i := 2) rfl
          have q3 := bxW.cell (i := 3) rfl
          have q4 := bxW.cell (i := 4) rfl
          clear bx bxW p1 p4
          replace hAr := hAr.out
          try dsimp only
          have hz5 := hbW.size
          have hown5 := own_below3 hown (hbW)
          have hA5 := Lib.hid (shv_below hS hz hAr hbW)
          have hbo := bt hb hbW
          have hzo := hbo.size
          replace hAr := Lib.hid hAr
          go_wp2_with (at_builtin; refine wpList_appK _ [.int .i64 1, .string n, .slice a1 ats.length e1, .string tx, .slice a8 l3.length c8] 5 rfl _ _ 25 41 rfl wo.heap.size Tryz.underlying25 infoN rfl (by omega) _ A.length (cellsV A) rfl hown5 _ rfl rfl rfl (five_one _ _ _ _ _ _ _ _ _) (by omega) (by omega) hzo ?_; intro g cp w6 hown6 hgrow6 hat6)
          have hb6 := below_own hbo hown5 hgrow6 hzo (Nat.le_refl _)
          have hA6 := shv_grow (n := A.length + 1) (cap := cp) hS hzo hA5.out hgrow6 hat6
          have hx6 := shv_grow (A := [(⟨.mk 1 n ats tx l3, .slice a1 ats.length e1, .slice a8 l3.length c8⟩ : NV)]) (n := A.length + 1) (cap := cp) hS hzo (fun b hb => by
            rw [List.mem_singleton] at hb
            subst hb
            exact ⟨((hrv.at_).below (fun c hc => by have := hS c hc; omega) hbW).mono (fun c hc => ⟨Or.inl hc, ownB_ne hown5 (Or.inl (hS c hc))⟩), hk8.out⟩) hgrow6 hat6
          have hown7 : w6.ownsRow wo.heap.size 41 5 (.slice (some ⟨g, 0, none⟩) (A.length + 1) cp) (A ++ [(⟨.mk 1 n ats tx l3, .slice a1 ats.length e1, .slice a8 l3.length c8⟩ : NV)]).length (cellsV (A ++ [(⟨.mk 1 n ats tx l3, .slice a1 ats.length e1, .slice a8 l3.length c8⟩ : NV)])) := by
            rw [cellsV_snoc, List.length_append]; exact hown6
          have hA7 : ∀ b ∈ A ++ [(⟨.mk 1 n ats tx l3, .slice a1 ats.length e1, .slice a8 l3.length c8⟩ : NV)], RepV (ShV S wo.heap.size (.slice (some ⟨g, 0, none⟩) (A.length + 1) cp) w6) w6 b.x b.va b.vk := fun b hb => by
            rcases List.mem_append.1 hb with hb | hb
            · exact hA6 b hb
            · exact hx6 b hb
          clear hown6 hgrow6 hat6 hA6 hx6 hown5 hA5
          replace hA7 := Lib.hid hA7
          go_roundw
          case rel => exact ⟨i + 1, A ++ [(⟨.mk 1 n ats tx l3, .slice a1 ats.length e1, .slice a8 l3.length c8⟩ : NV)], by omega, by go_num, hnext _ _, hown7, hA7.out, hb6⟩
          case measure => exact meas_nat hlt
    · obtain rfl : i = l.length := by omega
      rw [List.take_length] at hA
      have hd1 := (steadyQ_sizes l (fun _ => true)).2
      have hd2 := txt_dt (M6.steadyQ (fun _ => true) l)
      have hrep : RepN (Sh S wo wr) wr u3 (M6.steadyQ (fun _ => true) l) := by
        rw [← hA.out]
        refine ⟨cellsV A, by rw [List.length_map]; exact Row.own hown (fun g hg => Or.inr (hown.lt g hg)), RepC.of_nv (fun b hb => (hAr.out b hb).mono (fun c hc => hc.1))⟩
      have hml : (M6.steadyQ (fun _ => true) l).length ≤ 1000000 := by rw [← hA.out, List.length_map]; exact hAl
      have hM := Lib.hid (ref03MergeS _ u3 _ wr (fun b hb => by rcases hb with hb | hb; (have := hS b hb; omega); exact hb.2) hrep hml (by omega))
      clear hA hrep hAr hown
      go_wp2_with fail
      refine hM.out.mono ?_
      rintro e w2 ⟨v2, rfl, hr2, hb2⟩
      have hz2 := hb2.size
      have hres : Hid (RepN (fun b => S b ∨ (wo.heap.size ≤ b ∧ b < w2.heap.size)) w2 v2 (M6.steady l)) := hr2.mono (fun b hb => by
        rcases hb with (hb | hb) | hb
        · exact Or.inl hb
        · exact Or.inr ⟨hb.1, by omega⟩
        · exact Or.inr ⟨by omega, hb.2⟩)
      have hbo := bt hb hb2
      clear hr2 hM
      go_wp2_with fail
      go_ret
      exact ⟨v2, rfl, hres.out, hbo⟩
end Go.Proofs.YteefodibpjgicaaGreat

namespace Go.Proofs.YteefodibpjgicaaGreat
open Go.RowKit
theorem ref06Good (S : Nat → Prop) (v : Value) (l : List Nd) (w : World) (hS : ∀ b, S b → b < w.heap.size) (hr : RepN S w v l) (hsz : SzN l) :
    Calls Tryz.prog 22 #[v] w (RepPost (M6.steady (gdN l)) w) := by
  have hG := Lib.hid (ref03Good S v l w hS hr hsz)
  have hw := gd_weight l
  have hd := dt_gd l
  have hf := gd_fit l
  have hSt := Lib.hid (fun (S : Nat → Prop) v W hS h => ref06Steady (M3.weight (gdN l) + 1) S v (gdN l) W (by omega) (by omega) hf (by omega) hS h)
  obtain ⟨a, cap, rfl⟩ := hr.slice
  clear hr hw hd hf
  generalize gdN l = G at *
  obtain ⟨wo, rfl⟩ : ∃ wo : World, wo = w := ⟨_, rfl⟩
  go_enter Tryz.func22, Tryz.ntmps22
  go_wp2_with fail
  refine hG.out.mono ?_
  rintro e w1 ⟨v1, rfl, hf1, hb1⟩
  have hr1 := hf1.rep
  have hz1 := hb1.size
  have hK := Lib.hid (hSt.out _ v1 w1 (fun b h => h.2) hr1)
  obtain ⟨a1, c1, hv1⟩ := hr1.slice
  subst hv1
  clear hG hSt hf1 hr1
  go_wp2_with fail
  refine hK.out.mono ?_
  rintro e w2 ⟨v2, rfl, hr2, hb2⟩
  have hres : Hid (RepN (fun b => b < w2.heap.size) w2 v2 (M6.steady G)) := hr2.mono (fun b hb => by
    have := hb2.size
    rcases hb with hb | hb
    · have := hb.2; omega
    · exact hb.2)
  have hbo := bt hb1 hb2
  clear hK hr2
  go_wp2_with fail
  go_ret
  exact ⟨_, rfl, hres.out, hbo⟩
end Go.Proofs.YteefodibpjgicaaGreat

namespace Go.Proofs.YteefodibpjgicaaGreat
open Go.RowKit
theorem RepC.ones8 {S : Nat → Prop} {w : World} (l : List Nd) : ∀ (xs : List Value), RepC S w xs l → ∀ u ∈ xs, u.oneCell' = true := by
  induction l using Nd.ind with
  | h0 => intro xs h; rw [RepC] at h; subst h; simp
  | h1 k n ats t ks r _ ih2 =>
    intro xs h
    obtain ⟨va, vk, ys, rfl, h2, h3, h5⟩ := RepC.cons_iff.1 h
    obtain ⟨a1, c1, rfl⟩ := h2.slice
    obtain ⟨a2, c2, rfl⟩ := h3.slice
    intro u hu
    simp only [List.mem_cons] at hu
    rcases hu with rfl | rfl | rfl | rfl | rfl | hu
    · rfl
    · rfl
    · rfl
    · rfl
    · rfl
    · exact ih2 _ h5 u hu
theorem lastT_get (A : List Nd) (h : 0 < A.length) : M7.lastT false A = (A[A.length - 1].kind == 2) := by
  unfold M7.lastT
  rw [List.getLast?_eq_getElem?, List.getElem?_eq_getElem (by omega)]
def headT (B : List Nd) : Bool := match B with | y :: _ => y.kind == 2 | [] => false
theorem headT_get (B : List Nd) (h : 0 < B.length) : headT B = (B[0].kind == 2) := by
  cases B with
  | nil => simp at h
  | cons y r => rfl
theorem seam_may {A B : List Nd} (ha : M3.mayE false A = 0) (hb : M3.mayE false B = 0) (h : (M7.lastT false A && headT B) = false) : M3.mayE false (A ++ B) = 0 := by
  rw [M7.may_app]
  refine ⟨ha, ?_⟩
  cases hl : M7.lastT false A
  · exact hb
  · rw [hl, Bool.true_and] at h
    cases B with
    | nil => exact M3.mayE_nil _
    | cons y r =>
      have hk : (y.kind == 2) = false := h
      have hk2 : ¬ y.kind = 2 := by simpa using hk
      obtain ⟨h1, h2, h3⟩ := M7.may_cons hb
      have e : M3.oneE y true = M3.oneE y false := by unfold M3.oneE; rw [if_neg hk2, if_neg hk2]
      rw [M3.mayE_cons, e, h1, h2, h3]; simp
theorem seam_stable {A B : List Nd} (ha : M6.stableB A = true) (hb : M6.stableB B = true) (h : (M7.lastT false A && headT B) = false) : M6.stableB (A ++ B) = true := by
  unfold M6.stableB at *
  simp only [Bool.and_eq_true, decide_eq_true_eq] at *
  exact ⟨seam_may ha.1 hb.1 h, (M7.allB_app A B).2 ⟨ha.2, hb.2⟩⟩
theorem toksN_app (A B : List Nd) : M7.toksN (A ++ B) = M7.toksN A ++ M7.toksN B := by
  induction A with
  | nil => rw [List.nil_append, M7.toksN_nil]; rfl
  | cons x r ih => rw [List.cons_append, M7.toksN_cons, M7.toksN_cons, ih, List.append_assoc]
theorem toks_stable {A : List Nd} (h : M6.stableB A = true) : M5.tokens (M4.textB false A) = M7.toksN A := by
  unfold M6.stableB at h
  rw [Bool.and_eq_true] at h
  have hm : M3.mayE false A = 0 := by simpa using h.1
  have := M5.toks_nodes A false [] (.inl rfl) h.2 hm
  rw [List.append_nil, M5.toksR_nil] at this
  rw [M5.tokens_eq, this]
  show M7.toksN A ++ [] = _
  rw [List.append_nil]
theorem toksN_W (l : List Nd) : M5.qs (M7.toksN l) ≤ 2 * M3.weight l + dtN l := by
  induction l using Nd.ind with
  | h0 => rw [M7.toksN_nil]; exact Nat.zero_le _
  | h1 k n a t ks r ih1 ih2 =>
    rw [M7.toksN_cons, M5.qs_app, M3.weight_cons, dt_cons]
    show _ ≤ 2 * (1 + a.length + M3.weight ks + M3.weight r) + (t.size + dtN ks + dtN r)
    have key : M5.qs (M7.tokOne (.mk k n a t ks)) ≤ 2 * (1 + a.length + M3.weight ks) + (t.size + dtN ks) := by
      have hq1 : ∀ (x : Tok) (y : List Tok), M5.qs (x :: y) = tokQ x + M5.qs y := fun x y => by unfold M5.qs; rw [List.map_cons, List.sum_cons]
      unfold M7.tokOne
      split
      · rw [hq1]
        have e1 : tokQ (M7.begT (.mk k n a t ks)) = 1 + a.length + 0 := rfl
        rw [e1]
        split
        · rw [M5.qs_nil]; omega
        · rw [M5.qs_app, M5.qs_one]
          have e2 : tokQ (M7.endT (.mk k n a t ks)) = 1 := rfl
          rw [e2]
          show 1 + a.length + 0 + (M5.qs (M7.toksN ks) + 1) ≤ _
          omega
      split
      · rw [M5.qs_one]; show 1 + 0 + t.size ≤ _; omega
      · rw [M5.qs_one]; show 1 + 0 + t.size ≤ _; omega
    omega
theorem joins_fit {A B : List Nd} (hA : M6.stableB A = true) (hB : M6.stableB B = true) (h : (M7.lastT false A && headT B) = false) (fA : FitL (M5.tokens (M4.textB false A))) (fB : FitL (M5.tokens (M4.textB false B)))
    (wA : M3.weight A ≤ 240) (wB : M3.weight B ≤ 240) (dA : dtN A ≤ 28800) (dB : dtN B ≤ 28800) : FitL (M5.tokens (M4.textB false (A ++ B))) := by
  rw [toks_stable (seam_stable hA hB h), toksN_app]
  rw [toks_stable hA] at fA
  rw [toks_stable hB] at fB
  have h1 := toksN_W A
  have h2 := toksN_W B
  unfold M5.qs at h1 h2
  refine ⟨by rw [List.map_append, List.sum_append]; omega, fun t ht => ?_⟩
  rcases List.mem_append.1 ht with ht | ht
  · exact fA.2 t ht
  · exact fB.2 t ht
set_option maxHeartbeats 8000000 in
set_option maxRecDepth 100000 in
theorem law08ParseJoins (S : Nat → Prop) (va vb : Value) (la lb : List Nd) (w : World) (hg : Glo w) (hS : ∀ b, S b → b < w.heap.size) (hra : RepN S w va la) (hsa : SzN la) (hrb : RepN S w vb lb) (hsb : SzN lb) : Calls Tryz.prog 8 #[va, vb] w fun e w' => e = .returned (.bool true) ∧ Below w.heap.size w w' := by
  have hNa := Lib.hid (ref06Good S va la w hS hra hsa)
  have hNb := Lib.hid (fun W (hb : Below w.heap.size w W) => ref06Good S vb lb W (fun b h => Nat.lt_of_lt_of_le (hS b h) hb.size) (hrb.below hS hb) hsb)
  obtain ⟨a, cap, rfl⟩ := hra.slice
  obtain ⟨a', cap', rfl⟩ := hrb.slice
  have sA := st_stable la
  have fA := st_fit la
  have tA := st_text la false
  have kA := st_toks la
  have wA : M3.weight (stN la) ≤ 240 := Nat.le_trans (steady_sizes _).1 (gd_weight la)
  have dA : dtN (stN la) ≤ 28800 := Nat.le_trans (steady_sizes _).2 (dt_gd la)
  have sB := st_stable lb
  have fB := st_fit lb
  have tB := st_text lb false
  have kB := st_toks lb
  have wB : M3.weight (stN lb) ≤ 240 := Nat.le_trans (steady_sizes _).1 (gd_weight lb)
  have dB : dtN (stN lb) ≤ 28800 := Nat.le_trans (steady_sizes _).2 (dt_gd lb)
  change Hid (Calls Tryz.prog 22 #[_] w (RepPost (stN la) w)) at hNa
  change Hid (∀ W, Below w.heap.size w W → Calls Tryz.prog 22 #[_] W (RepPost (stN lb) W)) at hNb
  generalize stN la = A at *
  generalize stN lb = B at *
  have hAl := M3.length_le_weight A
  have hBl := M3.length_le_weight B
  clear hra hrb hsa hsb
  obtain ⟨wo, rfl⟩ : ∃ wo : World, wo = w := ⟨_, rfl⟩
  go_enter Tryz.func8, Tryz.ntmps8
  go_wp2_with fail
  refine hNa.out.mono ?_
  rintro e w1 ⟨v1, rfl, hr1, hb1⟩
  have hN1 := Lib.hid (hNb.out _ hb1)
  have hq1 : Hid (∀ W, Below w1.heap.size w1 W → RepN (fun b => b < w1.heap.size) W v1 A) := fun W hb => hr1.below (fun b h => h) hb
  obtain ⟨a1, c1, rfl⟩ := hr1.slice
  clear hNa hNb hr1
  go_upto_region 3 with (refine hN1.out.mono ?_; rintro e w2 ⟨v2, rfl, hr2, hb2⟩; obtain ⟨a2, c2, rfl⟩ := hr2.slice)
  have hb02 := bt hb1 hb2
  have hz2 := hb2.size
  have hr1 := hq1.out _ hb2
  obtain ⟨cb, hcb⟩ : ∃ c, c = (M7.lastT false A && headT B) := ⟨_, rfl⟩
  replace hcb := Lib.hid hcb
  go_cut [36] from 12 to 36 (fun s36 wx => s36 = .bool cb ∧ w2 = wx)
  case first =>
    by_cases hA0 : A.length = 0
    · have e0 : Hid (cb = false) := by
        have : A = [] := List.eq_nil_of_length_eq_zero hA0
        show cb = false
        rw [hcb.out, this]; rfl
      have g1 : decide ((0 : Int) < (A.length : Int)) = false := decide_eq_false (by omega)
      have g1n : (0 < A.length) = False := eq_false (by omega)
      replace hA0 := Lib.hid hA0
      clear hcb
      go_wp2_with fail
      go_meet
      case rel => exact ⟨by rw [e0.out], rfl⟩
    · have g1 : decide ((0 : Int) < (A.length : Int)) = true := decide_eq_true (by omega)
      obtain ⟨b, off, vx, vy, rfl, -, p0, -, -, -, -, -⟩ := hr1.at_ (A.length - 1) (by omega)
      have hlt := lastT_get A (by omega)
      rw [hlt] at hcb
      generalize A[A.length - 1].kind = xk at *
      by_cases hB0 : B.length = 0
      · have e0 : Hid (cb = false) := by
          have : B = [] := List.eq_nil_of_length_eq_zero hB0
          show cb = false
          rw [hcb.out, this, show headT [] = false from rfl, Bool.and_false]
        have g2 : decide ((0 : Int) < (B.length : Int)) = false := decide_eq_false (by omega)
        have g2n : (0 < B.length) = False := eq_false (by omega)
        replace hB0 := Lib.hid hB0
        clear hcb
        go_wp2_with fail
        go_meet
        case rel => exact ⟨by rw [e0.out], rfl⟩
      · have g2 : decide ((0 : Int) < (B.length : Int)) = true := decide_eq_true (by omega)
        obtain ⟨b', off', vx', vy', rfl, -, q0, -, -, -, -, -⟩ := hr2.at_ 0 (by omega)
        rw [headT_get B (by omega)] at hcb
        simp only [Nat.zero_mul, Nat.add_zero] at q0
        generalize B[0].kind = yk at *
        have e0 : Hid (cb = ((xk == 2) && (yk == 2))) := hcb.out
        have hI0 : (0 : Int) ≤ (A.length : Int) - 1 := by omega
        have hI1 : (A.length : Int) - 1 < (A.length : Int) := by omega
        have hJ1 : (0 : Int) < (B.length : Int) := by omega
        clear hcb hlt
        by_cases h1 : xk = 2
        · subst h1
          by_cases h2 : yk = 2
          · subst h2
            go_wp2_with fail
            go_meet
            case rel => exact ⟨by rw [e0.out]; rfl, rfl⟩
          · have h2d : decide (yk = 2) = false := decide_eq_false h2
            go_wp2_with fail
            go_meet
            case rel => exact ⟨by rw [e0.out, beq_false_of_ne h2, Bool.and_false], rfl⟩
        · have h1d : decide (xk = 2) = false := decide_eq_false h1
          go_wp2_with fail
          go_meet
          case rel => exact ⟨by rw [e0.out, beq_false_of_ne h1, Bool.false_and], rfl⟩
  case rest =>
  obtain ⟨rfl, rfl⟩ := hcut
  rename ∀ (a : Act) (w : World), Code.wp _ _ _ a w → _ => hK
  refine hK _ _ ?_
  clear hK
  have hcb' : cb = (M7.lastT false A && headT B) := hcb.out
  cases cb with
  | true =>
    have hLv := Lib.hid (lives08 w2 (hg.below hb02 (Nat.le_refl _)))
    clear hcb hcb' hr1 hr2 hq1 hN1
    go_wp2_with fail
    refine hLv.out.mono ?_
    rintro e w3 ⟨rfl, hb3⟩
    have hb03 := bt hb02 hb3
    go_wp2_with fail
    go_ret
    exact ⟨rfl, hb03⟩
  | false =>
    have hst := seam_stable sA sB hcb'.symm
    have hft := joins_fit sA sB hcb'.symm kA kB wA wB dA dB
    have htree := M5.tree_text hst
    clear hcb hcb' hN1
    obtain ⟨zs1, hrow1, hrep1⟩ := hr1
    obtain ⟨zs2, hrow2, hrep2⟩ := hr2
    have hrow12 := hrow1.mono (S' := fun b => b < w2.heap.size) (fun b h => Nat.lt_of_lt_of_le h hz2)
    have hrep12 := RepC.mono (S' := fun b => b < w2.heap.size) (fun b h => Nat.lt_of_lt_of_le h hz2) _ _ hrep1
    have ho1 := Lib.hid (RepC.ones8 _ _ hrep12)
    have ho2 := Lib.hid (RepC.ones8 _ _ hrep2)
    obtain ⟨_, hlc1, hcm1⟩ := hrow12.len
    obtain ⟨_, hlc2, hcm2⟩ := hrow2.len
    replace hrow12 := Lib.hid hrow12
    replace hrep12 := Lib.hid hrep12
    replace hrow2 := Lib.hid hrow2
    replace hrep2 := Lib.hid hrep2
    replace hst := Lib.hid hst
    replace hft := Lib.hid hft
    replace htree := Lib.hid htree
    replace fA := Lib.hid fA
    replace fB := Lib.hid fB
    clear hrow1 hrep1 hq1 sA sB kA kB
    go_wp2_with (first
      | (at_builtin; refine wpList_appRow _ rfl _ _ 25 41 rfl w2.heap.size 5 Tryz.underlying25 infoN rfl (by omega) _ 0 [] rfl (World.ownsRow_nil _ _ _ _) _ _ A.length zs1 rfl hrow12.out ho1.out (by omega) (by omega) (Nat.le_refl _) ?_; intro v3 w3 hown3 hgrow3; simp only [Nat.zero_add, List.nil_append] at hown3; obtain ⟨a3, c3, rfl⟩ := own_slice hown3; have hb3 := below_none hgrow3; have hown3' := Lib.hid hown3; clear hown3; have hz3 := hb3.size; have hrow23 := Lib.hid (hrow2.out.keep (w' := w3) (fun b h => hb3.block b h)))
      | (at_builtin; refine wpList_appRow _ rfl _ _ 25 41 rfl w2.heap.size 5 Tryz.underlying25 infoN rfl (by omega) _ A.length zs1 rfl hown3'.out _ _ B.length zs2 rfl hrow23.out ho2.out (by omega) (by omega) (by omega) ?_; intro v4 w4 hown4 hgrow4; obtain ⟨a4, c4, rfl⟩ := own_slice hown4; have hown4' := Lib.hid hown4; clear hown4))
    have hb24 : Below w2.heap.size w2 w4 := below_own hb3 hown3'.out hgrow4 hz3 (Nat.le_refl _)
    have hz4 := hb24.size
    have hrA : RepN (fun b => b < w2.heap.size) w4 (.slice a1 A.length c1) A := ⟨zs1, hrow12.out.keep (fun b h => hb24.block b h), RepC.keep (fun b h => hb24.block b h) _ _ hrep12.out⟩
    have hrB : RepN (fun b => b < w2.heap.size) w4 (.slice a2 B.length c2) B := ⟨zs2, hrow2.out.keep (fun b h => hb24.block b h), RepC.keep (fun b h => hb24.block b h) _ _ hrep2.out⟩
    have hrAB : RepN (fun b => b < w4.heap.size) w4 (.slice a4 (A.length + B.length) c4) (A ++ B) := by
      refine ⟨zs1 ++ zs2, by rw [List.length_append]; exact Row.own hown4'.out (fun g hg => (hown4'.out.lt g hg).2), ?_⟩
      refine RepC.mono (S := fun b => b < w2.heap.size) (fun b h => Nat.lt_of_lt_of_le h hz4) _ _ (RepC.append (m := B) ?_ A _ ?_)
      · exact RepC.keep (fun b h => hb24.block b h) _ _ hrep2.out
      · exact RepC.keep (fun b h => hb24.block b h) _ _ hrep12.out
    have hb04 : Below wo.heap.size wo w4 := bt hb02 hb24
    have hTA := Lib.hid (show Calls Tryz.prog 26 #[.slice a1 A.length c1] w4 (fun e w' => e = .returned (.string ⟨(M4.textB false A).toArray⟩) ∧ Below w4.heap.size w4 w') from ref04Text _ _ A w4 (fun b h => Nat.lt_of_lt_of_le h hz4) hrA fA.out (by omega))
    have hTB := Lib.hid (fun W (hW : Below w4.heap.size w4 W) => (show Calls Tryz.prog 26 #[.slice a2 B.length c2] W (fun e w' => e = .returned (.string ⟨(M4.textB false B).toArray⟩) ∧ Below W.heap.size W w') from ref04Text _ _ B W (fun b h => Nat.lt_of_lt_of_le (Nat.lt_of_lt_of_le h hz4) hW.size) (hrB.keep (fun b h => hW.block b (Nat.lt_of_lt_of_le h hz4))) fB.out (by omega)))
    have hP := Lib.hid (fun W (hW : Below wo.heap.size wo W) => (show Calls Tryz.prog 13 #[.string (⟨(M4.textB false A).toArray⟩ ++ ⟨(M4.textB false B).toArray⟩)] W (ShrP (fun _ => False) (A ++ B) W) from by
      have h := parText (M5.bs (M4.textB false (A ++ B))) W (hg.below hW (Nat.le_refl _)) (by rw [bs_size, M4.textB_append, List.length_append]; omega) (by rw [M5.bs_data]; exact hft.out)
      rw [M5.bs_data, htree.out, M4.textB_append] at h
      rw [cat_two]
      exact h))
    have hqAB : Hid (∀ W, Below w4.heap.size w4 W → RepN (fun b => b < W.heap.size) W (.slice a4 (A.length + B.length) c4) (A ++ B)) := fun W hb => (hrAB.below (fun b h => h) hb).mono fun b h => Nat.lt_of_lt_of_le h hb.size
    have hsA : (⟨(M4.textB false A).toArray⟩ : ByteArray).size ≤ 188400 := tA
    have hsB : (⟨(M4.textB false B).toArray⟩ : ByteArray).size ≤ 188400 := tB
    clear hrA hrB hrAB hrow12 hrep12 hrow2 hrep2 ho1 ho2 hown3' hown4' hgrow3 hgrow4 hrow23 tA tB fA fB hst hft htree
    generalize (⟨(M4.textB false A).toArray⟩ : ByteArray) = TA at *
    generalize (⟨(M4.textB false B).toArray⟩ : ByteArray) = TB at *
    refine hTA.out.mono ?_
    rintro e w5 ⟨rfl, hb5⟩
    have hTB5 := Lib.hid (hTB.out _ hb5)
    clear hTA hTB
    go_wp2_with fail
    refine hTB5.out.mono ?_
    rintro e w6 ⟨rfl, hb6⟩
    have hb46 := bt hb5 hb6
    have hb06 := bt hb04 hb46
    have hP6 := Lib.hid (hP.out _ hb06)
    clear hTB5 hP
    go_wp2_with fail
    refine hP6.out.mono ?_
    rintro e w7 ⟨v7, rfl, hr7, hb7⟩
    have hb47 := bt hb46 hb7
    have hSm := Lib.hid (same_callR (shr_lt hr7) (hqAB.out _ hb47))
    rw [M3.sameN_self] at hSm
    obtain ⟨a7, c7, rfl⟩ := hr7.slice
    rw [List.length_append] at hSm
    clear hr7 hP6
    go_wp2_with fail
    refine hSm.out.mono ?_
    rintro e w8 ⟨rfl, hb8⟩
    have hb08 := bt hb04 (bt hb47 hb8)
    have hLv := Lib.hid (lives08 w8 (hg.below hb08 (Nat.le_refl _)))
    clear hSm
    go_wp2_with fail
    refine hLv.out.mono ?_
    rintro e w9 ⟨rfl, hb9⟩
    have hb09 := bt hb08 hb9
    go_wp2_with fail
    go_ret
    exact ⟨rfl, hb09⟩
end Go.Proofs.YteefodibpjgicaaGreat
