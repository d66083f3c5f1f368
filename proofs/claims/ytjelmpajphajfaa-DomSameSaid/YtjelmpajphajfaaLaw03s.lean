/- Layer 3: the same, weight, all; a clone has lists of its own. -/
import Derived.Test.YtjelmpajphajfaaSpoil
import Derived.Test.YtjelmpajphajfaaLaw03m
import Derived.Test.YtjelmpajphajfaaAll
namespace Go.Proofs.Ytjelmpajphajfaa
open Go.RowKit

theorem weight_bound (m : List Nd) (W : Nat) (h : ∀ x ∈ m, 1 + x.attrs.length + M3.weight x.kids ≤ W) : M3.weight m ≤ m.length * W := by
  induction m with
  | nil => rw [M3.weight_nil]; exact Nat.zero_le _
  | cons x r ih =>
    rw [M3.weight_cons, List.length_cons, Nat.add_mul]
    have h1 := h x (by simp)
    have h2 := ih (fun y hy => h y (by simp [hy]))
    omega
theorem all_mem_weight (l : List Nd) : ∀ x ∈ M3.all l, 1 + x.attrs.length + M3.weight x.kids ≤ M3.weight l := by
  induction l using Nd.ind with
  | h0 => intro x hx; rw [M3.all_nil] at hx; cases hx
  | h1 k n at_ t ks r ih1 ih2 =>
    intro x hx
    rw [M3.all_cons] at hx
    rw [M3.weight_cons]
    change x ∈ Nd.mk k n at_ t ks :: (M3.all ks ++ M3.all r) at hx
    show _ ≤ 1 + at_.length + M3.weight ks + M3.weight r
    rcases List.mem_cons.1 hx with rfl | hx
    · simp only [Nd.attrs, Nd.kids]; omega
    · rcases List.mem_append.1 hx with hx | hx
      · have := ih1 x hx; omega
      · have := ih2 x hx; omega
theorem few_few (s : ByteArray) : M3.few (M3.few s) = M3.few s := by
  have h := few_size s
  rw [M3.few, if_neg (by omega)]
theorem fewA_fewA (a : Att) : M3.fewA (M3.fewA a) = M3.fewA a := by simp [M3.fewA, few_few]
theorem cut_cut (l : List Nd) : ∀ m, M3.cut (M3.cut l m).1 m = M3.cut l m := by
  induction l using Nd.ind with
  | h0 => intro m; rw [M3.cut_nil, M3.cut_nil]
  | h1 k n ats t ks r ih1 ih2 =>
    intro m
    cases m with
    | zero => rw [M3.cut_zero, M3.cut_zero]
    | succ m =>
      rw [M3.cut_cons, M3.cut_cons]
      simp only [Nd.kind, Nd.name, Nd.text, Nd.attrs, Nd.kids, ih1, ih2, few_few]
      congr 3
      rw [← List.map_take, List.map_map, List.take_take, Nat.min_self]
      apply List.map_congr_left
      intro a _
      exact fewA_fewA a
theorem fewN_fewN (l : List Nd) : fewN (fewN l) = fewN l := by unfold fewN; rw [cut_cut]
theorem fit_sz (l : List Nd) (h : FitN l) : SzN l := by
  induction l using Nd.ind with
  | h0 => rw [SzN]; trivial
  | h1 k n ats t ks r ih1 ih2 =>
    obtain ⟨h1, h2, h3⟩ := fitN_cons.1 h
    refine szN_cons.2 ⟨⟨by have := h1.1; omega, by have := h1.2.1; omega, fun a ha => by have := h1.2.2.1 a ha; omega⟩, ih1 h2, ih2 h3⟩
theorem all_weight (l : List Nd) (h : M3.weight l ≤ 240) : M3.weight (M3.all l) ≤ 57600 := by
  have h1 := weight_bound _ _ (all_mem_weight l)
  have h2 := M3.all_len l
  have h3 : (M3.all l).length * M3.weight l ≤ 240 * 240 := Nat.mul_le_mul (by omega) h
  omega
/-- Nodes that read in every world behind one. -/
theorem rep_ever {w1 : World} {B : Nat} {v : Value} {l : List Nd} (h : RepN (fun b => B ≤ b ∧ b < w1.heap.size) w1 v l) : Hid (∀ W, Below w1.heap.size w1 W → RepN (fun b => b < W.heap.size) W v l) :=
  Lib.hid (fun _ hW => (h.below (fun _ h => h.2) hW).mono (fun _ h => by have := hW.size; omega))
theorem same_call {w : World} {va vb : Value} {a b : List Nd} (ha : RepN (fun b => b < w.heap.size) w va a) (hb : RepN (fun b => b < w.heap.size) w vb b) : Calls Try.prog 22 #[va, vb] w (SamePost (M3.sameN a b) w) :=
  ref03Same (M3.weight a + 1) _ a b va vb w (by omega) (fun _ h => h) ha hb
theorem same_call' {w : World} {va vb : Value} {a b : List Nd} (ha : RepN (fun b => b < w.heap.size) w va a) (hb : RepN (fun b => b < w.heap.size) w vb b) : Calls Try.prog 21 #[va, vb] w (SamePost (M3.sameN a b) w) :=
  domSame (M3.weight a + 1) _ a b va vb w (by omega) (fun _ h => h) ha hb

set_option maxHeartbeats 4000000 in
set_option maxRecDepth 100000 in
theorem law03DomSame (S : Nat → Prop) (va vb : Value) (la lb : List Nd) (w : World) (hS : ∀ b, S b → b < w.heap.size) (hra : RepN S w va la) (hrb : RepN S w vb lb) (hsa : SzN la) (hsb : SzN lb) :
    Calls Try.prog 4 #[va, vb] w fun e w' => e = .returned (.bool true) ∧ Below w.heap.size w w' := by
  have hF := Lib.hid (ref03Few S va la w hS hra hsa)
  have hrb' := Lib.hid (fun W (hW : Below w.heap.size w W) => ref03Few S vb lb W (fun b h => by have := hS b h; have := hW.size; omega) (hrb.below hS hW) hsb)
  have hwa := fewN_weight la
  have hwb := fewN_weight lb
  have hfa := Lib.hid (fewN_fit la)
  obtain ⟨a, capa, rfl⟩ := hra.slice
  obtain ⟨b, capb, rfl⟩ := hrb.slice
  clear hra hrb hS hsa hsb
  go_enter Try.func4, Try.ntmps4
  go_wp2_with (fail)
  refine hF.out.mono ?_
  rintro e w1 ⟨v1, rfl, hm1, hb1⟩
  have hz1 := hb1.size
  have hr1 := hm1.rep
  have hB := hrb'.out w1 hb1
  clear hF hrb'
  generalize hLa : fewN la = A at *
  generalize fewN lb = Bn at *
  obtain ⟨a1, c1, rfl⟩ := hr1.slice
  have hE1 := rep_ever hr1
  replace hB := Lib.hid hB
  clear hm1 hr1
  go_wp2_with (fail)
  refine hB.out.mono ?_
  rintro e w2 ⟨v2, rfl, hm2, hb2⟩
  have hz2 := hb2.size
  have hr2 := hm2.rep
  obtain ⟨a2, c2, rfl⟩ := hr2.slice
  have hE2 := rep_ever hr2
  have hCl := Lib.hid (domClone (M3.weight A + 1) _ _ A w2 (by omega) (by show M3.weight A ≤ 1000000; omega) (fun _ h => h) (hE1.out w2 hb2))
  clear hB hm2 hr2
  go_wp2_with (fail)
  refine hCl.out.mono ?_
  rintro e w3 ⟨v3, rfl, hfr3, hb3⟩
  have hz3 := hb3.size
  have hb13 : Below w1.heap.size w1 w3 := hb2.trans (hb3.mono hz2)
  have hE3 := rep_ever hfr3.rep
  obtain ⟨a3, c3, rfl⟩ := hfr3.rep.slice
  have hK := Lib.hid (ref03Few _ _ A w3 (fun _ h => h) (hE1.out w3 hb13) (fit_sz A hfa.out))
  have hff : Hid (fewN A = A) := by show _ = _; rw [← hLa]; exact fewN_fewN la
  rw [hff.out] at hK
  replace hLa := Lib.hid hLa
  replace hfr3 := Lib.hid hfr3
  clear hCl
  go_wp2_with (fail)
  refine hK.out.mono ?_
  rintro e w4 ⟨v4, rfl, hm4, hb4⟩
  have hz4 := hb4.size
  have hr4 := hm4.rep
  have hb14 : Below w1.heap.size w1 w4 := hb13.trans (hb4.mono (by omega))
  have hE4 := rep_ever hr4
  replace hr4 := Lib.hid hr4
  obtain ⟨a4, c4, rfl⟩ := hr4.out.slice
  have hAl := Lib.hid (domAll _ _ A w4 (fun _ h => h) (hE1.out w4 hb14) hfa.out (by show M3.weight A ≤ 1000000; omega))
  clear hK hm4
  go_wp2_with (fail)
  refine hAl.out.mono ?_
  rintro e w5 ⟨v5, rfl, hfr5, hb5⟩
  have hz5 := hb5.size
  have hb15 : Below w1.heap.size w1 w5 := hb14.trans (hb5.mono (by omega))
  have hb25 : Below w2.heap.size w2 w5 := ((hb3.trans (hb4.mono hz3)).trans (hb5.mono (by omega)))
  have hE5 := rep_ever hfr5.rep
  have hwall := all_weight A hwa
  have hRall := fun W (hW : Below w1.heap.size w1 W) => ref03All (M3.weight A + 1) _ A _ W (by omega) (by omega) (fun _ h => h) (hE1.out W hW)
  have hsl := Lib.hid (M3.sameN_self (M3.all A))
  obtain ⟨a5, c5, rfl⟩ := hfr5.rep.slice
  generalize M3.all A = AA at *
  replace hRall := Lib.hid hRall
  replace hfr5 := Lib.hid hfr5
  have hS1 := Lib.hid (same_call' (hE1.out w5 hb15) (hE2.out w5 hb25))
  clear hAl
  go_wp2_with (fail)
  refine hS1.out.mono ?_
  rintro e w6 ⟨rfl, hb6⟩
  have hz6 := hb6.size
  have hb16 : Below w1.heap.size w1 w6 := hb15.trans (hb6.mono (by omega))
  have hb26 : Below w2.heap.size w2 w6 := hb25.trans (hb6.mono (by omega))
  have hS2 := Lib.hid (same_call (hE1.out w6 hb16) (hE2.out w6 hb26))
  clear hS1
  go_wp2_with (fail)
  refine hS2.out.mono ?_
  rintro e w7 ⟨rfl, hb7⟩
  have hz7 := hb7.size
  have hb17 : Below w1.heap.size w1 w7 := hb16.trans (hb7.mono (by omega))
  have hb37 : Below w3.heap.size w3 w7 := (((hb4.trans (hb5.mono hz4)).trans (hb6.mono (by omega))).trans (hb7.mono (by omega)))
  have hsA := Lib.hid (M3.sameN_self A)
  have hS3 := Lib.hid (same_call' (hE1.out w7 hb17) (hE3.out w7 hb37))
  rw [hsA.out] at hS3
  clear hS2
  generalize M3.sameN A Bn = rr at *
  have hrr : (rr != rr) = false := by simp
  go_wp2_with (fail)
  refine hS3.out.mono ?_
  rintro e w8 ⟨rfl, hb8⟩
  have hz8 := hb8.size
  have hb18 : Below w1.heap.size w1 w8 := hb17.trans (hb8.mono (by omega))
  have hb38 : Below w3.heap.size w3 w8 := hb37.trans (hb8.mono (by omega))
  have hS4 := Lib.hid (same_call (hE1.out w8 hb18) (hE3.out w8 hb38))
  rw [hsA.out] at hS4
  clear hS3
  go_wp2_with (fail)
  refine hS4.out.mono ?_
  rintro e w9 ⟨rfl, hb9⟩
  have hz9 := hb9.size
  have hb19 : Below w1.heap.size w1 w9 := hb18.trans (hb9.mono (by omega))
  have hW1 := Lib.hid (domWeight _ _ A w9 (fun _ h => h) (hE1.out w9 hb19) hfa.out (by omega))
  clear hS4
  go_wp2_with (fail)
  refine hW1.out.mono ?_
  rintro e w10 ⟨rfl, hb10⟩
  have hz10 := hb10.size
  have hb110 : Below w1.heap.size w1 w10 := hb19.trans (hb10.mono (by omega))
  have hW2 := Lib.hid (ref03Weight (M3.weight A + 1) _ A _ w10 (by omega) (by omega) (fun _ h => h) (hE1.out w10 hb110))
  clear hW1
  go_wp2_with (fail)
  refine hW2.out.mono ?_
  rintro e w11 ⟨rfl, hb11⟩
  have hz11 := hb11.size
  have hb111 : Below w1.heap.size w1 w11 := hb110.trans (hb11.mono (by omega))
  have hR := Lib.hid (hRall.out w11 hb111)
  clear hW2 hRall
  go_wp2_with (fail)
  refine hR.out.mono ?_
  rintro e w12 ⟨v12, L12, rfl, hm12, hown12, hr12, hb12⟩
  have hz12 := hb12.size
  have hb512 : Below w5.heap.size w5 w12 := ((((((hb6.trans (hb7.mono hz6)).trans (hb8.mono (by omega))).trans (hb9.mono (by omega))).trans (hb10.mono (by omega))).trans (hb11.mono (by omega))).trans (hb12.mono (by omega)))
  have hb112 : Below w1.heap.size w1 w12 := hb111.trans (hb12.mono (by omega))
  have hrep12 : RepN (fun b => b < w12.heap.size) w12 v12 AA := by
    rw [← hm12]
    exact ⟨cellsV L12, by rw [List.length_map]; exact Row.own hown12 (fun g hg => (hown12.lt g hg).2), RepC.of_nv (fun b hb => ((hr12 b hb).below (fun _ h => h) hb12).mono (fun c hc => by omega))⟩
  have hS5 := Lib.hid (same_call (hE5.out w12 hb512) hrep12)
  rw [hsl.out] at hS5
  obtain ⟨a12, c12, rfl⟩ := hrep12.slice
  clear hR hm12 hown12 hr12 hrep12
  go_wp2_with (fail)
  refine hS5.out.mono ?_
  rintro e w13 ⟨rfl, hb13'⟩
  have hz13 := hb13'.size
  have hb113 : Below w1.heap.size w1 w13 := hb112.trans (hb13'.mono (by omega))
  have hb513 : Below w5.heap.size w5 w13 := hb512.trans (hb13'.mono (by omega))
  have hb313 : Below w3.heap.size w3 w13 := (hb4.trans (hb5.mono hz4)).trans (hb513.mono (by omega))
  have hb413 : Below w4.heap.size w4 w13 := hb5.trans (hb513.mono hz5)
  clear hS5
  obtain ⟨zs3, F3, own3, oc3, sp3⟩ := hfr3.out
  obtain ⟨zs5, F5, own5, oc5, sp5⟩ := hfr5.out
  have hP1 := Lib.hid (law03Spoil (M3.weight A + 1) A _ zs3 F3 w13 (by omega) (by omega) (own_base (own_below own3 hb313) (fun _ _ => Nat.zero_le _)) (OwnC.keep _ _ _ (fun b hb => hb313.block b (sp3.2 b (by simp [hb])).2) oc3) sp3.1)
  have sp3' := Lib.hid sp3
  have sp5' := Lib.hid sp5
  replace own5 := Lib.hid own5
  replace oc5 := Lib.hid oc5
  clear own3 oc3 sp3 sp5
  go_wp2_with (fail)
  refine hP1.out.mono ?_
  rintro e w14 ⟨rfl, hs14⟩
  have hb513' : ∀ b, w4.heap.size ≤ b → b < w5.heap.size → w14.heap[b]? = w5.heap[b]? := fun b h1 h2 => (hs14.block b (fun h => by have := sp3'.out.2 b h; omega)).trans (hb513.block b h2)
  have hP2 := Lib.hid (law03Spoil (M3.weight AA + 1) AA _ zs5 F5 w14 (by omega) (by omega) (own_base (own_keep own5.out (fun g hg => hb513' g (own5.out.lt g hg).1 (own5.out.lt g hg).2)) (fun _ _ => Nat.zero_le _)) (OwnC.keep _ _ _ (fun b hb => hb513' b (sp5'.out.2 b (by simp [hb])).1 (sp5'.out.2 b (by simp [hb])).2) oc5.out) sp5'.out.1)
  clear hP1
  go_wp2_with (fail)
  refine hP2.out.mono ?_
  rintro e w15 ⟨rfl, hs15⟩
  have hb215 : Below w2.heap.size w13 w15 := (hs14.below (fun b hb => (sp3'.out.2 b hb).1)).trans (hs15.below (fun b hb => by have := (sp5'.out.2 b hb).1; omega))
  have hb415 : ∀ b, w3.heap.size ≤ b → b < w4.heap.size → w15.heap[b]? = w4.heap[b]? := fun b h1 h2 => ((hs15.block b (fun h => by have := sp5'.out.2 b h; omega)).trans (hs14.block b (fun h => by have := sp3'.out.2 b h; omega))).trans (hb413.block b h2)
  have hz15 : w13.heap.size ≤ w15.heap.size := hb215.size
  have hb115 : Below w1.heap.size w1 w15 := hb113.trans (hb215.mono hz2)
  have hk15 : RepN (fun b => b < w15.heap.size) w15 (.slice a4 A.length c4) A := (hr4.out.keep (fun b h => hb415 b h.1 h.2)).mono (fun b h => by omega)
  have hS6 := Lib.hid (same_call (hE1.out w15 hb115) hk15)
  rw [hsA.out] at hS6
  clear hP2 hk15
  go_wp2_with (fail)
  refine hS6.out.mono ?_
  rintro e w16 ⟨rfl, hb16'⟩
  go_wp2_with (fail)
  refine (lives03 _).mono ?_
  rintro e w17 ⟨rfl, hb17'⟩
  have hbb : Below w.heap.size w w17 := ((hb1.trans (hb115.mono hz1)).trans (hb16'.mono (by omega))).trans (hb17'.mono (by have := hb16'.size; omega))
  go_wp2
  go_ret
  exact ⟨rfl, hbb⟩
end Go.Proofs.Ytjelmpajphajfaa
