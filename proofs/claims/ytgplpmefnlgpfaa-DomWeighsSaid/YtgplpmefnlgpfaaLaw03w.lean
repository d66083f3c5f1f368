/- Layer 3: what nodes weigh. -/
import Derived.Test.YtgplpmefnlgpfaaAll
import Derived.Test.YtgplpmefnlgpfaaSmall3
namespace Go.Proofs.Ytgplpmefnlgpfaa
open Go.RowKit

/-- One for each of all, and one for each attribute of the first k. -/
def part (L : List Nd) (k : Nat) : Nat := L.length + ((L.take k).map fun x => x.attrs.length).sum
theorem part_succ (L : List Nd) (k : Nat) (h : k < L.length) : part L (k + 1) = part L k + L[k].attrs.length := by
  unfold part
  rw [List.take_succ_eq_append_getElem h, List.map_append, List.sum_append]
  simp only [List.map_cons, List.map_nil, List.sum_cons, List.sum_nil]
  omega
theorem part_all (L : List Nd) : part L L.length = (L.map fun x => 1 + x.attrs.length).sum := by
  unfold part
  rw [List.take_length]
  induction L with
  | nil => rfl
  | cons x r ih => simp only [List.map_cons, List.sum_cons, List.length_cons] at ih ⊢; omega
theorem part_le (L : List Nd) (k : Nat) : part L k ≤ part L L.length := by
  unfold part
  rw [List.take_length]
  have : ((L.take k).map fun x => x.attrs.length).sum ≤ (L.map fun x => x.attrs.length).sum := by
    conv => rhs; rw [← List.take_append_drop k L, List.map_append, List.sum_append]
    omega
  omega

theorem RepN.take {S : Nat → Prop} {w : World} {a : Option Addr} {n cap : Nat} {l : List Nd} (h : RepN S w (.slice a n cap) l) (q : Nat) (hq : q ≤ l.length) : RepN S w (.slice a q cap) (l.take q) := by
  obtain ⟨xs, ⟨h1, a', cap', h2, h3, h4, h5, h6⟩, hc⟩ := h
  cases h2
  refine ⟨xs.take (q * 5), ⟨by simp; omega, a, cap, by simp; omega, by simp; omega, h4, h5, fun hp => ?_⟩, RepC.take l xs q hc⟩
  simp at hp
  obtain ⟨b, off, e, hb, hx⟩ := h6 (by omega)
  refine ⟨b, off, e, hb, fun j u hj => hx j u ?_⟩
  rw [List.getElem?_take] at hj
  split at hj
  · exact hj
  · cases hj
theorem RepN.zero (S : Nat → Prop) (w : World) (b : Nat) : RepN S w (.slice (some ⟨b, 0, none⟩) 0 0) [] := ⟨[], ⟨rfl, some ⟨b, 0, none⟩, 0, rfl, Nat.le_refl _, by omega, (fun e => by cases e), fun h => absurd h (by simp)⟩, RepC.nil _ _⟩
theorem RepN.drop {S : Nat → Prop} {w : World} {b : Nat} {off n cap : Nat} {l : List Nd} (h : RepN S w (.slice (some ⟨b, off, none⟩) n cap) l) (q : Nat) (hq : q ≤ l.length) : RepN S w (.slice (some ⟨b, off + q * 5, none⟩) (n - q) (cap - q)) (l.drop q) := by
  obtain ⟨xs, ⟨h1, a', cap', h2, h3, h4, h5, h6⟩, hc⟩ := h
  cases h2
  refine ⟨xs.drop (q * 5), ⟨by simp; omega, some ⟨b, off + q * 5, none⟩, cap - q, by simp, by simp; omega, by omega, (fun e => by cases e), fun hp => ?_⟩, RepC.drop l xs q hc⟩
  simp at hp
  obtain ⟨b', off', e, hb, hx⟩ := h6 (by omega)
  cases e
  refine ⟨b, off + q * 5, rfl, hb, fun j u hj => ?_⟩
  rw [List.getElem?_drop] at hj
  have := hx _ u hj
  rwa [← Nat.add_assoc] at this
set_option maxHeartbeats 4000000 in
set_option maxRecDepth 100000 in
theorem law03DomWeighs (S : Nat → Prop) (v : Value) (l : List Nd) (at_ : Int) (w : World) (hS : ∀ b, S b → b < w.heap.size) (hr : RepN S w v l) (hsz : SzN l) (ha1 : -9223372036854775808 ≤ at_) (ha2 : at_ ≤ 9223372036854775807) :
    Calls Try.prog 8 #[v, .int .i64 at_] w fun e w' => e = .returned (.bool true) ∧ Below w.heap.size w w' := by
  have hF := Lib.hid (ref03Few S v l w hS hr hsz)
  have hfit := fewN_fit l
  have hwt := fewN_weight l
  obtain ⟨a, cap, rfl⟩ := hr.slice
  generalize fewN l = L at *
  clear hr hsz
  go_enter Try.func8, Try.ntmps8
  go_wp2_with (fail)
  refine hF.out.mono ?_
  rintro e w1 ⟨v1, rfl, hm, hb1⟩
  have hrep := hm.rep
  have hform : (L.length = 0 ∧ v1 = .slice none 0 0) ∨ ∃ g cap1, v1 = .slice (some ⟨g, 0, none⟩) L.length cap1 := by
    obtain ⟨zs, ho, _⟩ := hm
    rcases ho.2 with ⟨e, h⟩ | ⟨g, cap, _, e, _⟩
    · exact .inl ⟨h, e⟩
    · exact .inr ⟨g, cap, e⟩
  rcases hform with ⟨hL0, rfl⟩ | ⟨g, cap1, rfl⟩
  · obtain rfl : L = [] := List.eq_nil_of_length_eq_zero hL0
    have hA := Lib.hid (domAll _ _ [] w1 (fun b h => h.2) hrep hfit (by show M3.weight [] ≤ 1000000; omega))
    clear hF hm
    go_wp2_with (fail)
    refine hA.out.mono ?_
    rintro e w2 ⟨v2, rfl, hfr, hb2⟩
    have hrA := hfr.rep
    rw [M3.all_nil] at hrA
    obtain ⟨a2, cap2, rfl⟩ := hrA.slice
    clear hfr hA hrA hrep hL0
    have hz1 := hb1.size
    have hz2 := hb2.size
    have hD := Lib.hid (fun W => domWeight (fun _ => False) (.slice none 0 0) [] W (fun b h => h.elim) (RepN.nil _ W) fitN_nil (by rw [M3.weight_nil]; omega))
    rw [M3.weight_nil] at hD
    simp only [List.length_nil]
    go_wp2_with (fail)
    go_loop [6, 7] (fun u6 u7 => u7 = .int .i64 0 ∧ u6 = .int .i64 0) (fun _ _ => 0)
    case atStart => exact ⟨rfl, rfl⟩
    case round =>
      obtain ⟨rfl, rfl⟩ := hrel
      by_cases hneg : at_ < 0
      · go_wp2_with (fail)
        go_region_held3 (fun _ => True)
          (first
            | go_keep
            | trivial)
          (first
            | (go_at_call 28; have h5 := hb5; have h6 := hb6; refine (hD.out _).mono ?_; rintro e w7 ⟨rfl, hb7⟩; clear h5 h6)
            | (go_at_call 28; have h5 := hb5; refine (hD.out _).mono ?_; rintro e w6 ⟨rfl, hb6⟩; clear h5)
            | (go_at_call 28; refine (hD.out _).mono ?_; rintro e w5 ⟨rfl, hb5⟩)
            | (go_at_call 18; refine (lives03 _).mono ?_; rintro e w8 ⟨rfl, hb8⟩))
        have z5 := hb5.size
        have z6 := hb6.size
        have z7 := hb7.size
        simp at z5
        have hbb : Below w.heap.size w w8 := ((((hb1.trans (hb2.drew.mono hz1)).trans (hb5.mono (by simp; omega))).trans (hb6.mono (by omega))).trans (hb7.mono (by omega))).trans (hb8.mono (by omega))
        go_wp2
        go_ret
        exact ⟨rfl, hbb⟩
      · go_wp2_with (fail)
        go_region_held3 (fun _ => True)
          (first
            | go_keep
            | trivial)
          (first
            | (go_at_call 28; have h5 := hb5; have h6 := hb6; refine (hD.out _).mono ?_; rintro e w7 ⟨rfl, hb7⟩; clear h5 h6)
            | (go_at_call 28; have h5 := hb5; refine (hD.out _).mono ?_; rintro e w6 ⟨rfl, hb6⟩; clear h5)
            | (go_at_call 28; refine (hD.out _).mono ?_; rintro e w5 ⟨rfl, hb5⟩)
            | (go_at_call 18; refine (lives03 _).mono ?_; rintro e w8 ⟨rfl, hb8⟩))
        have z5 := hb5.size
        have z6 := hb6.size
        have z7 := hb7.size
        simp at z5
        have hbb : Below w.heap.size w w8 := ((((hb1.trans (hb2.drew.mono hz1)).trans (hb5.mono (by simp; omega))).trans (hb6.mono (by omega))).trans (hb7.mono (by omega))).trans (hb8.mono (by omega))
        go_wp2
        go_ret
        exact ⟨rfl, hbb⟩
  · have hA := Lib.hid (domAll _ _ L w1 (fun b h => h.2) hrep hfit (by show M3.weight L ≤ 1000000; omega))
    clear hF hm
    replace hrep := Lib.hid hrep
    go_wp2_with (fail)
    refine hA.out.mono ?_
    rintro e w2 ⟨v2, rfl, hfr, hb2⟩
    have hrA := hfr.rep
    obtain ⟨a2, cap2, rfl⟩ := hrA.slice
    have hpw : part (M3.all L) (M3.all L).length = M3.weight L := by rw [part_all, M3.weight_all]
    have hpl : ∀ k, k ≤ (M3.all L).length → part (M3.all L) k ≤ 240 := fun k hk => by have := part_le (M3.all L) k; omega
    have hp0 : part (M3.all L) 0 = (M3.all L).length := by simp [part]
    clear hfr hA
    generalize M3.all L = A at *
    have hA240 : A.length ≤ 240 := by rw [← hp0]; exact hpl 0 (Nat.zero_le _)
    have hL240 : L.length ≤ 240 := Nat.le_trans (M3.length_le_weight L) hwt
    replace hpw := Lib.hid hpw
    replace hpl := Lib.hid hpl
    replace hp0 := Lib.hid hp0
    replace hrA := Lib.hid hrA
    go_wp2_with (fail)
    go_loop [6, 7] (fun u6 u7 => ∃ k : Nat, k ≤ A.length ∧ u7 = .int .i64 (k : Int) ∧ u6 = .int .i64 (part A k : Int)) (fun _ u7 => A.length - (intOf u7).toNat)
    case atStart => exact ⟨0, by omega, rfl, by rw [hp0.out]⟩
    case round =>
      obtain ⟨k, hk, rfl, rfl⟩ := hrel
      by_cases hlt : k < A.length
      · obtain ⟨b, off, va, vk, rfl, hSb, c0, c1, c2, c3, c4, hrv⟩ := hrA.out.at_ k hlt
        have hsu := part_succ A k hlt
        have hle := hpl.out (k + 1) hlt
        obtain ⟨a3, cap3, rfl⟩ := hrv.at_.slice
        generalize A[k].attrs.length = m at *
        clear hrv c0 c1 c3 c4
        go_wp2_with (fail)
        go_round
        case rel => exact ⟨k + 1, by omega, by go_num, by go_num⟩
        case measure => simp [intOf]; omega
      · obtain rfl : k = A.length := by omega
        rw [hpw.out]
        clear hpl hp0
        by_cases hneg : at_ < 0
        · go_wp2_with (fail)
          obtain ⟨q, hq, hqL⟩ : ∃ q : Nat, -((at_ + 1).tmod ((L.length : Int) + 1)) = (q : Int) ∧ q ≤ L.length := by
            have h1 : (at_ + 1).tmod ((L.length : Int) + 1) ≤ 0 := by
              have h3 : 0 ≤ (-(at_ + 1)).tmod ((L.length : Int) + 1) := Int.tmod_nonneg _ (by omega)
              rw [Int.neg_tmod] at h3; omega
            have h2 : -((at_ + 1).tmod ((L.length : Int) + 1)) < (L.length : Int) + 1 := by
              rw [← Int.neg_tmod]; exact Int.tmod_lt_of_pos _ (by omega)
            exact ⟨(-((at_ + 1).tmod ((L.length : Int) + 1))).toNat, by omega, by omega⟩
          rw [hq]
          have hrt := fun W (hW : Below w1.heap.size w1 W) => RepN.take (hrep.out.below (fun b h => h.2) hW) q hqL
          have hrd := fun W (hW : Below w1.heap.size w1 W) => RepN.drop (hrep.out.below (fun b h => h.2) hW) q hqL
          have hsum : M3.weight (L.take q) + M3.weight (L.drop q) = M3.weight L := by rw [← M3.weight_append, List.take_append_drop]
          have hlb : ∀ W, Below w1.heap.size w1 W → ∀ b, (w.heap.size ≤ b ∧ b < w1.heap.size) → b < W.heap.size := fun W hW b h => by have := hW.size; omega
          have hD1 := Lib.hid (fun W (hW : Below w1.heap.size w1 W) => domWeight _ _ L W (hlb W hW) (hrep.out.below (fun b h => h.2) hW) hfit (by omega))
          have hD2 := Lib.hid (fun W (hW : Below w1.heap.size w1 W) => domWeight _ _ (L.take q) W (hlb W hW) (hrt W hW) (fitN_take hfit q) (by omega))
          have hq0 : (0 : Int) ≤ (q : Int) := by omega
          have hq1 : (q : Int) ≤ (L.length : Int) := by omega
          have hq2 : (L.length : Int) ≤ (cap1 : Int) := by have := hrep.out.len.2.1; omega
          have hq3 : (q : Int) ≤ (cap1 : Int) := by omega
          have hz1 := hb1.size
          have hz2 := hb2.size
          by_cases hqc : q = cap1
          · subst hqc
            have hlq : L.length = q := by omega
            have hd0 : L.drop q = [] := by rw [← hlq, List.drop_length]
            have hD3 := Lib.hid (fun W (hW : Below w1.heap.size w1 W) => domWeight _ (.slice (some ⟨g, 0, none⟩) (L.length - q) 0) (L.drop q) W (hlb W hW) (by rw [hd0, hlq, Nat.sub_self]; exact RepN.zero _ W g) (fitN_drop hfit q) (by omega))
            clear hd0 hlq
            generalize M3.weight (L.take q) = m1 at *
            generalize M3.weight (L.drop q) = m2 at *
            clear hrt hrd hlb
            have hsumI : (m1 : Int) + (m2 : Int) = (M3.weight L : Int) := by omega
            have hwr : IntKind.i64.wrap ((M3.weight L : Nat) : Int) = (M3.weight L : Int) := IntWalk.i64_in _ ⟨by omega, by omega⟩
            clear hsum
            go_region_held3 (fun _ => True)
              (first
                | go_keep
                | trivial)
              (first
                | (go_at_call 28; have h5 := hb5; have h6 := hb6; refine (hD3.out _ ((hb2.drew.trans (hb5.mono (by simp; omega))).trans (hb6.mono (by have := hb5.size; simp at this ⊢; omega)))).mono ?_; rintro e w7 ⟨rfl, hb7⟩; clear h5 h6)
                | (go_at_call 28; have h5 := hb5; refine (hD2.out _ (hb2.drew.trans (hb5.mono (by simp; omega)))).mono ?_; rintro e w6 ⟨rfl, hb6⟩; clear h5)
                | (go_at_call 28; refine (hD1.out _ hb2.drew).mono ?_; rintro e w5 ⟨rfl, hb5⟩)
                | (go_at_call 18; refine (lives03 _).mono ?_; rintro e w8 ⟨rfl, hb8⟩))
            have z5 := hb5.size
            have z6 := hb6.size
            have z7 := hb7.size
            simp at z5
            have hbb : Below w.heap.size w w8 := ((((hb1.trans (hb2.drew.mono hz1)).trans (hb5.mono (by simp; omega))).trans (hb6.mono (by omega))).trans (hb7.mono (by omega))).trans (hb8.mono (by omega))
            go_wp2
            go_ret
            exact ⟨rfl, hbb⟩
          · have hqc2 : ¬ ((q : Int) = (cap1 : Int)) := by omega
            have hD3 := Lib.hid (fun W (hW : Below w1.heap.size w1 W) => domWeight _ (.slice (some ⟨g, q * 5, none⟩) (L.length - q) (cap1 - q)) (L.drop q) W (hlb W hW) (by have h := hrd W hW; rwa [Nat.zero_add] at h) (fitN_drop hfit q) (by omega))
            generalize M3.weight (L.take q) = m1 at *
            generalize M3.weight (L.drop q) = m2 at *
            clear hrt hrd hlb
            have hsumI : (m1 : Int) + (m2 : Int) = (M3.weight L : Int) := by omega
            have hwr : IntKind.i64.wrap ((M3.weight L : Nat) : Int) = (M3.weight L : Int) := IntWalk.i64_in _ ⟨by omega, by omega⟩
            clear hsum
            go_region_held3 (fun _ => True)
              (first
                | go_keep
                | trivial)
              (first
                | (go_at_call 28; have h5 := hb5; have h6 := hb6; refine (hD3.out _ ((hb2.drew.trans (hb5.mono (by simp; omega))).trans (hb6.mono (by have := hb5.size; simp at this ⊢; omega)))).mono ?_; rintro e w7 ⟨rfl, hb7⟩; clear h5 h6)
                | (go_at_call 28; have h5 := hb5; refine (hD2.out _ (hb2.drew.trans (hb5.mono (by simp; omega)))).mono ?_; rintro e w6 ⟨rfl, hb6⟩; clear h5)
                | (go_at_call 28; refine (hD1.out _ hb2.drew).mono ?_; rintro e w5 ⟨rfl, hb5⟩)
                | (go_at_call 18; refine (lives03 _).mono ?_; rintro e w8 ⟨rfl, hb8⟩))
            have z5 := hb5.size
            have z6 := hb6.size
            have z7 := hb7.size
            simp at z5
            have hbb : Below w.heap.size w w8 := ((((hb1.trans (hb2.drew.mono hz1)).trans (hb5.mono (by simp; omega))).trans (hb6.mono (by omega))).trans (hb7.mono (by omega))).trans (hb8.mono (by omega))
            go_wp2
            go_ret
            exact ⟨rfl, hbb⟩
        · go_wp2_with (fail)
          obtain ⟨q, hq, hqL⟩ : ∃ q : Nat, at_ % ((L.length : Int) + 1) = (q : Int) ∧ q ≤ L.length := by
            have h1 : 0 ≤ at_ % ((L.length : Int) + 1) := Int.emod_nonneg _ (by omega)
            have h2 : at_ % ((L.length : Int) + 1) < (L.length : Int) + 1 := Int.emod_lt_of_pos _ (by omega)
            exact ⟨(at_ % ((L.length : Int) + 1)).toNat, by omega, by omega⟩
          rw [hq]
          have hrt := fun W (hW : Below w1.heap.size w1 W) => RepN.take (hrep.out.below (fun b h => h.2) hW) q hqL
          have hrd := fun W (hW : Below w1.heap.size w1 W) => RepN.drop (hrep.out.below (fun b h => h.2) hW) q hqL
          have hsum : M3.weight (L.take q) + M3.weight (L.drop q) = M3.weight L := by rw [← M3.weight_append, List.take_append_drop]
          have hlb : ∀ W, Below w1.heap.size w1 W → ∀ b, (w.heap.size ≤ b ∧ b < w1.heap.size) → b < W.heap.size := fun W hW b h => by have := hW.size; omega
          have hD1 := Lib.hid (fun W (hW : Below w1.heap.size w1 W) => domWeight _ _ L W (hlb W hW) (hrep.out.below (fun b h => h.2) hW) hfit (by omega))
          have hD2 := Lib.hid (fun W (hW : Below w1.heap.size w1 W) => domWeight _ _ (L.take q) W (hlb W hW) (hrt W hW) (fitN_take hfit q) (by omega))
          have hq0 : (0 : Int) ≤ (q : Int) := by omega
          have hq1 : (q : Int) ≤ (L.length : Int) := by omega
          have hq2 : (L.length : Int) ≤ (cap1 : Int) := by have := hrep.out.len.2.1; omega
          have hq3 : (q : Int) ≤ (cap1 : Int) := by omega
          have hz1 := hb1.size
          have hz2 := hb2.size
          by_cases hqc : q = cap1
          · subst hqc
            have hlq : L.length = q := by omega
            have hd0 : L.drop q = [] := by rw [← hlq, List.drop_length]
            have hD3 := Lib.hid (fun W (hW : Below w1.heap.size w1 W) => domWeight _ (.slice (some ⟨g, 0, none⟩) (L.length - q) 0) (L.drop q) W (hlb W hW) (by rw [hd0, hlq, Nat.sub_self]; exact RepN.zero _ W g) (fitN_drop hfit q) (by omega))
            clear hd0 hlq
            generalize M3.weight (L.take q) = m1 at *
            generalize M3.weight (L.drop q) = m2 at *
            clear hrt hrd hlb
            have hsumI : (m1 : Int) + (m2 : Int) = (M3.weight L : Int) := by omega
            have hwr : IntKind.i64.wrap ((M3.weight L : Nat) : Int) = (M3.weight L : Int) := IntWalk.i64_in _ ⟨by omega, by omega⟩
            clear hsum
            go_region_held3 (fun _ => True)
              (first
                | go_keep
                | trivial)
              (first
                | (go_at_call 28; have h5 := hb5; have h6 := hb6; refine (hD3.out _ ((hb2.drew.trans (hb5.mono (by simp; omega))).trans (hb6.mono (by have := hb5.size; simp at this ⊢; omega)))).mono ?_; rintro e w7 ⟨rfl, hb7⟩; clear h5 h6)
                | (go_at_call 28; have h5 := hb5; refine (hD2.out _ (hb2.drew.trans (hb5.mono (by simp; omega)))).mono ?_; rintro e w6 ⟨rfl, hb6⟩; clear h5)
                | (go_at_call 28; refine (hD1.out _ hb2.drew).mono ?_; rintro e w5 ⟨rfl, hb5⟩)
                | (go_at_call 18; refine (lives03 _).mono ?_; rintro e w8 ⟨rfl, hb8⟩))
            have z5 := hb5.size
            have z6 := hb6.size
            have z7 := hb7.size
            simp at z5
            have hbb : Below w.heap.size w w8 := ((((hb1.trans (hb2.drew.mono hz1)).trans (hb5.mono (by simp; omega))).trans (hb6.mono (by omega))).trans (hb7.mono (by omega))).trans (hb8.mono (by omega))
            go_wp2
            go_ret
            exact ⟨rfl, hbb⟩
          · have hqc2 : ¬ ((q : Int) = (cap1 : Int)) := by omega
            have hD3 := Lib.hid (fun W (hW : Below w1.heap.size w1 W) => domWeight _ (.slice (some ⟨g, q * 5, none⟩) (L.length - q) (cap1 - q)) (L.drop q) W (hlb W hW) (by have h := hrd W hW; rwa [Nat.zero_add] at h) (fitN_drop hfit q) (by omega))
            generalize M3.weight (L.take q) = m1 at *
            generalize M3.weight (L.drop q) = m2 at *
            clear hrt hrd hlb
            have hsumI : (m1 : Int) + (m2 : Int) = (M3.weight L : Int) := by omega
            have hwr : IntKind.i64.wrap ((M3.weight L : Nat) : Int) = (M3.weight L : Int) := IntWalk.i64_in _ ⟨by omega, by omega⟩
            clear hsum
            go_region_held3 (fun _ => True)
              (first
                | go_keep
                | trivial)
              (first
                | (go_at_call 28; have h5 := hb5; have h6 := hb6; refine (hD3.out _ ((hb2.drew.trans (hb5.mono (by simp; omega))).trans (hb6.mono (by have := hb5.size; simp at this ⊢; omega)))).mono ?_; rintro e w7 ⟨rfl, hb7⟩; clear h5 h6)
                | (go_at_call 28; have h5 := hb5; refine (hD2.out _ (hb2.drew.trans (hb5.mono (by simp; omega)))).mono ?_; rintro e w6 ⟨rfl, hb6⟩; clear h5)
                | (go_at_call 28; refine (hD1.out _ hb2.drew).mono ?_; rintro e w5 ⟨rfl, hb5⟩)
                | (go_at_call 18; refine (lives03 _).mono ?_; rintro e w8 ⟨rfl, hb8⟩))
            have z5 := hb5.size
            have z6 := hb6.size
            have z7 := hb7.size
            simp at z5
            have hbb : Below w.heap.size w w8 := ((((hb1.trans (hb2.drew.mono hz1)).trans (hb5.mono (by simp; omega))).trans (hb6.mono (by omega))).trans (hb7.mono (by omega))).trans (hb8.mono (by omega))
            go_wp2
            go_ret
            exact ⟨rfl, hbb⟩
end Go.Proofs.Ytgplpmefnlgpfaa
