/- Layer 3: texts side by side are merged, and then may be. -/
import Derived.Test.YtjelmpajphajfaaLaw03m
import Derived.Test.YtjelmpajphajfaaRef01c
namespace Go.Proofs.Ytjelmpajphajfaa
open Go.RowKit Go.ChangeShapes Go.WideShapes

section
variable {H : Type} {enc : TypeId × Value → H} {w : World} {base : Nat} {spare : Nat → Bool} {held : Bool}
theorem open_texts {fuel : Nat} {cs : List Value} {x : DataW H × List MemPlace} (h : DataW.trod enc Try.prog w base spare held fuel 36 cs = some x) :
    ∃ (v : Value) (L : List ByteArray), cs = [v] ∧ Row (fun b => b < w.heap.size) w 1 v L.length (L.flatMap fun s => [.string s]) ∧ ∀ s ∈ L, s.size ≤ 9223372036854775807 :=
  open_rows Try.underlying36 (cell1 9 (Or.inl rfl)) (by decide) h (fun s : ByteArray => [.string s]) (fun _ => rfl) (fun s : ByteArray => s.size ≤ 9223372036854775807) (fun n cs' y _ hl h => by
    obtain ⟨s, e, _, z⟩ := DataW.trod_string Try.underlying9 h
    unfold maxLen at z
    exact ⟨s, e, by omega⟩)
end
theorem Row.atS {S : Nat → Prop} {w : World} {a : Option Addr} {n cap : Nat} {l : List ByteArray} (h : Row S w 1 (.slice a n cap) l.length (l.flatMap fun s => [.string s])) (i : Nat) (hi : i < l.length) :
    ∃ b off, a = some ⟨b, off, none⟩ ∧ S b ∧ w.cell? ⟨b, off + i, none⟩ = some (.string l[i]) := by
  obtain ⟨h0, a', cap', h1, h2, h3, h4, h5⟩ := h
  cases h1
  obtain ⟨b, off, rfl, h7, h8⟩ := h5 (by omega)
  refine ⟨b, off, rfl, h7, h8 i _ ?_⟩
  have : l.flatMap (fun s => [Value.string s]) = l.map Value.string := (List.map_eq_flatMap).symm
  rw [this, List.getElem?_map, List.getElem?_eq_getElem hi]; rfl

theorem fitN_iff {l : List Nd} : FitN l ↔ ∀ x ∈ l, Fit1 x ∧ FitN x.kids := by
  induction l with
  | nil => simp [fitN_nil]
  | cons x r ih => rw [fitN_cons, ih]; simp; exact ⟨fun h => ⟨⟨h.1, h.2.1⟩, h.2.2⟩, fun h => ⟨h.1.1, h.1.2, h.2⟩⟩
theorem fit_merge {l : List Nd} (h : FitN l) (ht : txtN l ≤ 268435456) : FitN (M3.merge l) := by
  have h1 := M3.merge_all (P := fun x => (x.name.size ≤ 268435456 ∧ (∀ a ∈ x.attrs, a.name.size ≤ 268435456 ∧ a.value.size ≤ 268435456) ∧ 1 + x.attrs.length + M3.weight x.kids ≤ 1000000) ∧ FitN x.kids)
    (fun x y hx _ _ _ => by rw [M3.withText_name, M3.withText_attrs, M3.withText_kids]; exact hx) l (fun x hx => by have := fitN_iff.1 h x hx; exact ⟨⟨this.1.1, this.1.2.2.1, this.1.2.2.2⟩, this.2⟩)
  have h2 := txtN_merge l
  refine fitN_iff.2 (fun x hx => ?_)
  obtain ⟨⟨q1, q2, q3⟩, q4⟩ := h1 x hx
  have := txtN_mem hx
  exact ⟨⟨q1, by omega, q2, q3⟩, q4⟩

def few20 (s : ByteArray) : ByteArray := if 20 < s.size then s.extract 0 20 else s
theorem few20_size (s : ByteArray) : (few20 s).size ≤ 20 := by
  unfold few20
  split
  · simp; omega
  · omega
/-- A text that is right, a comment. -/
def txV (t : ByteArray) : NV := ⟨.mk 2 ⟨#[]⟩ [] t [], .slice none 0 0, .slice none 0 0⟩
def coV : NV := ⟨.mk 3 ⟨#[]⟩ [] ⟨#[99]⟩ [], .slice none 0 0, .slice none 0 0⟩
def Plain6 (A : List NV) : Prop := ∀ b ∈ A, (∃ t, b = txV t ∧ M1.isB t.data.toList = true ∧ t.size ≤ 80) ∨ b = coV
theorem isB_c : M1.isB [99] = true := by rw [isB_low _ _ (by decide) (by decide) (by decide), M1.isB_nil]
theorem plain_ok {A : List NV} (h : Plain6 A) : ∀ x ∈ A.map NV.x, M3.okP x := by
  intro x hx
  obtain ⟨b, hb, rfl⟩ := List.mem_map.1 hx
  rcases h b hb with ⟨t, rfl, h1, _⟩ | rfl
  · exact ⟨by unfold M3.plainB; rw [nilB_data]; rfl, h1⟩
  · refine ⟨?_, M3.mayE_nil _⟩
    show M3.oneE (.mk 3 ⟨#[]⟩ [] ⟨#[99]⟩ []) false = 0
    rw [M3.oneE_mk]
    have : M1.isB (⟨#[99]⟩ : ByteArray).data.toList = true := isB_c
    unfold M3.oneF M3.kindlyF M3.plainF
    rw [this, nilB_data, nilB_data]
    decide
theorem plain_fit {A : List NV} (h : Plain6 A) : FitN (A.map NV.x) := by
  refine fitN_iff.2 (fun x hx => ?_)
  obtain ⟨b, hb, rfl⟩ := List.mem_map.1 hx
  rcases h b hb with ⟨t, rfl, _, h2⟩ | rfl
  · exact ⟨⟨by show (⟨#[]⟩ : ByteArray).size ≤ _; decide, by show t.size ≤ _; omega, (fun a ha => by cases ha), by show 1 + 0 + M3.weight [] ≤ _; rw [M3.weight_nil]; omega⟩, fitN_nil⟩
  · exact ⟨⟨by show (⟨#[]⟩ : ByteArray).size ≤ _; decide, by show (⟨#[99]⟩ : ByteArray).size ≤ _; decide, (fun a ha => by cases ha), by show 1 + 0 + M3.weight [] ≤ _; rw [M3.weight_nil]; omega⟩, fitN_nil⟩
theorem plain_weight {A : List NV} (h : Plain6 A) : M3.weight (A.map NV.x) = A.length := by
  induction A with
  | nil => exact M3.weight_nil
  | cons b r ih =>
    rw [List.map_cons, M3.weight_cons, ih (fun c hc => h c (by simp [hc])), List.length_cons]
    rcases h b (by simp) with ⟨t, rfl, _, _⟩ | rfl
    · show 1 + 0 + M3.weight [] + r.length = _; rw [M3.weight_nil]; omega
    · show 1 + 0 + M3.weight [] + r.length = _; rw [M3.weight_nil]; omega
theorem plain_txt {A : List NV} (h : Plain6 A) : txtN (A.map NV.x) ≤ A.length * 80 := by
  have := txtN_fit (A.map NV.x) 80 (fun x hx => by
    obtain ⟨b, hb, rfl⟩ := List.mem_map.1 hx
    rcases h b hb with ⟨t, rfl, _, h2⟩ | rfl
    · exact h2
    · show (⟨#[99]⟩ : ByteArray).size ≤ _; decide)
  rwa [List.length_map] at this
theorem plain_rep {A : List NV} (S : Nat → Prop) (w : World) (h : Plain6 A) : ∀ b ∈ A, RepV S w b.x b.va b.vk := by
  intro b hb
  rcases h b hb with ⟨t, rfl, _, _⟩ | rfl
  · exact ⟨Row.nil _ _ _, RepN.nil _ _⟩
  · exact ⟨Row.nil _ _ _, RepN.nil _ _⟩

set_option maxHeartbeats 4000000 in
set_option maxRecDepth 100000 in
theorem law03DomGood (S : Nat → Prop) (v : Value) (l : List ByteArray) (w : World) (hS : ∀ b, S b → b < w.heap.size) (hr : Row S w 1 v l.length (l.flatMap fun s => [.string s])) (hsz : ∀ s ∈ l, s.size ≤ 9223372036854775807) :
    Calls Try.prog 6 #[v] w fun e w' => e = .returned (.bool true) ∧ Below w.heap.size w w' := by
  obtain ⟨a, cap, rfl⟩ := hr.slice
  obtain ⟨_, hlc, hcm⟩ := hr.len
  replace hsz := Lib.hid hsz
  go_enter Try.func6, Try.ntmps6
  go_wp2_with (fail)
  go_loopw [3, 4, 5] (fun u3 u4 _ wr => ∃ (i : Nat) (A : List NV), i ≤ l.length ∧ i ≤ 6 ∧ u4 = .int .i64 (i : Int) ∧ A.length ≤ 2 * i ∧ Hid (Plain6 A) ∧ wr.ownsRow w.heap.size 28 5 u3 A.length (cellsV A) ∧ Below w.heap.size w wr) (fun _ u4 _ _ => 6 - (intOf u4).toNat)
  case atStart => exact ⟨0, [], by omega, by omega, rfl, by simp, Lib.hid (fun b hb => by cases hb), World.ownsRow_nil _ _ _ _, Below.refl _ _⟩
  case round =>
    obtain ⟨i, A, hi, hi6, rfl, hAl, hP, hown, hb⟩ := hrel
    have hz := hb.size
    by_cases hlt : i < l.length ∧ i < 6
    · obtain ⟨hlt1, hlt2⟩ := hlt
      obtain ⟨b, off, rfl, hSb, c0⟩ := (hr.below hS hb).atS i hlt1
      have hsi := hsz.out _ (List.getElem_mem hlt1)
      have hf20 := few20_size l[i]
      have hif : Hid (few20 l[i] = if 20 < l[i].size then l[i].extract 0 20 else l[i]) := rfl
      generalize l[i] = s at *
      obtain ⟨x1, w1, hc1, s1, b1⟩ := conv_bytes wr (few20 s) (by omega)
      have hR := Lib.hid (ref01Right x1 _ w1 s1 (by show (few20 s).size ≤ _; omega))
      have hrl := M1.right_len (few20 s).data.toList
      have hrB := Lib.hid (M1.isB_right (few20 s).data.toList)
      have hfl : (few20 s).data.toList.length ≤ 20 := hf20
      generalize M1.right (few20 s).data.toList = rt at *
      by_cases h20 : 20 < s.size
      · rw [if_pos h20] at hif
        rw [hif.out] at hc1
        go_wp2_with (fail)
        refine hR.out.mono ?_
        rintro e w2 ⟨rfl, b2⟩
        have hbr2 : Below wr.heap.size wr w2 := bt b1 b2
        have hb2 := hb.trans (hbr2.mono hz)
        have hown2 := own_below hown hbr2
        have hz2 := hb2.size
        have hP2 := hP.out
        have hP3 : Hid (Plain6 (A ++ [txV ⟨rt.toArray⟩])) := Lib.hid (fun b hb => by
          rcases List.mem_append.1 hb with h | h
          · exact hP2 b h
          · simp at h; subst h; exact .inl ⟨_, rfl, hrB.out, by show rt.length ≤ _; omega⟩)
        clear hR c0 hown s1 hP2
        have hlT : (A ++ [txV ⟨rt.toArray⟩]).length = A.length + 1 := by simp
        cases h3 : ((i : Int) % 3 == 2)
        · go_wp2_with (at_builtin; refine wpList_appK _ [.int .i64 2, .string ⟨#[]⟩, .slice none 0 0, .string ⟨rt.toArray⟩, .slice none 0 0] 5 rfl _ _ 22 28 rfl w.heap.size Try.underlying22 infoN rfl (by omega) u3 A.length (cellsV A) rfl hown2 _ rfl rfl rfl (five_one _ _ _ _ _ _ _ _ _) (by omega) (by omega) (by omega) ?_; intro g cp w3 hown3 hgrow3 hat3)
          have hb3 := below_own hb2 hown2 hgrow3 hz2 (Nat.le_refl _)
          have hown4 : w3.ownsRow w.heap.size 28 5 (.slice (some ⟨g, 0, none⟩) (A.length + 1) cp) (A ++ [txV ⟨rt.toArray⟩]).length (cellsV (A ++ [txV ⟨rt.toArray⟩])) := by
            rw [cellsV_snoc, hlT]; exact hown3
          clear hown3 hgrow3 hat3
          go_roundw
          case rel => exact ⟨i + 1, (A ++ [txV ⟨rt.toArray⟩]), by omega, by omega, by go_num, by omega, hP3, hown4, hb3⟩
          case measure => exact meas_nat hlt2
        · have hP4 : Hid (Plain6 ((A ++ [txV ⟨rt.toArray⟩]) ++ [coV])) := Lib.hid (fun b hb => by
            rcases List.mem_append.1 hb with h | h
            · exact hP3.out b h
            · simp at h; subst h; exact .inr rfl)
          go_wp2_with (first
            | (at_builtin; refine wpList_appK _ [.int .i64 2, .string ⟨#[]⟩, .slice none 0 0, .string ⟨rt.toArray⟩, .slice none 0 0] 5 rfl _ _ 22 28 rfl w.heap.size Try.underlying22 infoN rfl (by omega) u3 A.length (cellsV A) rfl hown2 _ rfl rfl rfl (five_one _ _ _ _ _ _ _ _ _) (by omega) (by omega) (by omega) ?_; intro g cp w3 hown3 hgrow3 hat3; have hb3 := below_own hb2 hown2 hgrow3 hz2 (Nat.le_refl _); have hz3 := hb3.size; have hown4 : w3.ownsRow w.heap.size 28 5 (.slice (some ⟨g, 0, none⟩) (A.length + 1) cp) (A.length + 1) (cellsV (A ++ [txV ⟨rt.toArray⟩])) := by (rw [cellsV_snoc]; exact hown3))
            | (at_builtin; refine wpList_appK _ [.int .i64 3, .string ⟨#[]⟩, .slice none 0 0, .string ⟨#[99]⟩, .slice none 0 0] 5 rfl _ _ 22 28 rfl w.heap.size Try.underlying22 infoN rfl (by omega) _ (A.length + 1) (cellsV (A ++ [txV ⟨rt.toArray⟩])) rfl hown4 _ rfl rfl rfl (five_one _ _ _ _ _ _ _ _ _) (by omega) (by omega) (by omega) ?_; intro g4 cp4 w4 hown5 hgrow5 hat5))
          have hb4 := below_own hb3 hown4 hgrow5 hz3 (Nat.le_refl _)
          have hown6 : w4.ownsRow w.heap.size 28 5 (.slice (some ⟨g4, 0, none⟩) (A.length + 1 + 1) cp4) ((A ++ [txV ⟨rt.toArray⟩]) ++ [coV]).length (cellsV ((A ++ [txV ⟨rt.toArray⟩]) ++ [coV])) := by
            rw [cellsV_snoc (A ++ [txV ⟨rt.toArray⟩]), List.length_append, hlT]; exact hown5
          clear hown3 hgrow3 hat3 hown5 hgrow5 hat5
          go_roundw
          case rel => exact ⟨i + 1, (A ++ [txV ⟨rt.toArray⟩]) ++ [coV], by omega, by omega, by go_num, by rw [List.length_append, hlT]; simp; omega, hP4, hown6, hb4⟩
          case measure => exact meas_nat hlt2
      · rw [if_neg h20] at hif
        rw [hif.out] at hc1
        go_wp2_with (fail)
        refine hR.out.mono ?_
        rintro e w2 ⟨rfl, b2⟩
        have hbr2 : Below wr.heap.size wr w2 := bt b1 b2
        have hb2 := hb.trans (hbr2.mono hz)
        have hown2 := own_below hown hbr2
        have hz2 := hb2.size
        have hP2 := hP.out
        have hP3 : Hid (Plain6 (A ++ [txV ⟨rt.toArray⟩])) := Lib.hid (fun b hb => by
          rcases List.mem_append.1 hb with h | h
          · exact hP2 b h
          · simp at h; subst h; exact .inl ⟨_, rfl, hrB.out, by show rt.length ≤ _; omega⟩)
        clear hR c0 hown s1 hP2
        have hlT : (A ++ [txV ⟨rt.toArray⟩]).length = A.length + 1 := by simp
        cases h3 : ((i : Int) % 3 == 2)
        · go_wp2_with (at_builtin; refine wpList_appK _ [.int .i64 2, .string ⟨#[]⟩, .slice none 0 0, .string ⟨rt.toArray⟩, .slice none 0 0] 5 rfl _ _ 22 28 rfl w.heap.size Try.underlying22 infoN rfl (by omega) u3 A.length (cellsV A) rfl hown2 _ rfl rfl rfl (five_one _ _ _ _ _ _ _ _ _) (by omega) (by omega) (by omega) ?_; intro g cp w3 hown3 hgrow3 hat3)
          have hb3 := below_own hb2 hown2 hgrow3 hz2 (Nat.le_refl _)
          have hown4 : w3.ownsRow w.heap.size 28 5 (.slice (some ⟨g, 0, none⟩) (A.length + 1) cp) (A ++ [txV ⟨rt.toArray⟩]).length (cellsV (A ++ [txV ⟨rt.toArray⟩])) := by
            rw [cellsV_snoc, hlT]; exact hown3
          clear hown3 hgrow3 hat3
          go_roundw
          case rel => exact ⟨i + 1, (A ++ [txV ⟨rt.toArray⟩]), by omega, by omega, by go_num, by omega, hP3, hown4, hb3⟩
          case measure => exact meas_nat hlt2
        · have hP4 : Hid (Plain6 ((A ++ [txV ⟨rt.toArray⟩]) ++ [coV])) := Lib.hid (fun b hb => by
            rcases List.mem_append.1 hb with h | h
            · exact hP3.out b h
            · simp at h; subst h; exact .inr rfl)
          go_wp2_with (first
            | (at_builtin; refine wpList_appK _ [.int .i64 2, .string ⟨#[]⟩, .slice none 0 0, .string ⟨rt.toArray⟩, .slice none 0 0] 5 rfl _ _ 22 28 rfl w.heap.size Try.underlying22 infoN rfl (by omega) u3 A.length (cellsV A) rfl hown2 _ rfl rfl rfl (five_one _ _ _ _ _ _ _ _ _) (by omega) (by omega) (by omega) ?_; intro g cp w3 hown3 hgrow3 hat3; have hb3 := below_own hb2 hown2 hgrow3 hz2 (Nat.le_refl _); have hz3 := hb3.size; have hown4 : w3.ownsRow w.heap.size 28 5 (.slice (some ⟨g, 0, none⟩) (A.length + 1) cp) (A.length + 1) (cellsV (A ++ [txV ⟨rt.toArray⟩])) := by (rw [cellsV_snoc]; exact hown3))
            | (at_builtin; refine wpList_appK _ [.int .i64 3, .string ⟨#[]⟩, .slice none 0 0, .string ⟨#[99]⟩, .slice none 0 0] 5 rfl _ _ 22 28 rfl w.heap.size Try.underlying22 infoN rfl (by omega) _ (A.length + 1) (cellsV (A ++ [txV ⟨rt.toArray⟩])) rfl hown4 _ rfl rfl rfl (five_one _ _ _ _ _ _ _ _ _) (by omega) (by omega) (by omega) ?_; intro g4 cp4 w4 hown5 hgrow5 hat5))
          have hb4 := below_own hb3 hown4 hgrow5 hz3 (Nat.le_refl _)
          have hown6 : w4.ownsRow w.heap.size 28 5 (.slice (some ⟨g4, 0, none⟩) (A.length + 1 + 1) cp4) ((A ++ [txV ⟨rt.toArray⟩]) ++ [coV]).length (cellsV ((A ++ [txV ⟨rt.toArray⟩]) ++ [coV])) := by
            rw [cellsV_snoc (A ++ [txV ⟨rt.toArray⟩]), List.length_append, hlT]; exact hown5
          clear hown3 hgrow3 hat3 hown5 hgrow5 hat5
          go_roundw
          case rel => exact ⟨i + 1, (A ++ [txV ⟨rt.toArray⟩]) ++ [coV], by omega, by omega, by go_num, by rw [List.length_append, hlT]; simp; omega, hP4, hown6, hb4⟩
          case measure => exact meas_nat hlt2
    · have hP2 := hP.out
      have hw6 := plain_weight hP2
      have ht6 := plain_txt hP2
      have hfit := fit_merge (plain_fit hP2) (by omega)
      have hrep : RepN (fun b => b < wr.heap.size) wr u3 (A.map NV.x) := ⟨cellsV A, by rw [List.length_map]; exact Row.own hown (fun g hg => (hown.lt g hg).2), RepC.of_nv (plain_rep _ _ hP2)⟩
      have hM := Lib.hid (domMerge _ u3 (A.map NV.x) wr (fun _ h => h) hrep (by omega) (by omega))
      have hmay := Lib.hid (M3.may_merge _ (plain_ok hP2))
      obtain ⟨a3, c3, rfl⟩ := own_slice hown
      clear hP hP2 hw6 ht6 hrep
      generalize M3.merge (A.map NV.x) = M at *
      have htest : (decide (i < l.length) = false) ∨ (decide (i < l.length) = true ∧ decide ((i : Int) < 6) = false) := by
        by_cases h : i < l.length
        · exact Or.inr ⟨decide_eq_true (by omega), decide_eq_false (by omega)⟩
        · exact Or.inl (decide_eq_false (by omega))
      clear hlt
      rcases htest with htest | ⟨htest, htest2⟩
      all_goals
        go_wp2_with (fail)
        refine hM.out.mono ?_
        rintro e w1 ⟨v1, rfl, hfr1, hb1⟩
        have hz1 := hb1.size
        have hDM := Lib.hid (domMay _ v1 M w1 (fun b h => h.2) hfr1.rep hfit)
        obtain ⟨a4, c4, rfl⟩ := hfr1.rep.slice
        rw [hmay.out] at hDM
        clear hM hfr1
        go_wp2_with (fail)
        refine hDM.out.mono ?_
        rintro e w2 ⟨rfl, hb2⟩
        go_wp2_with (fail)
        refine (lives03 _).mono ?_
        rintro e w3 ⟨rfl, hb3⟩
        have hbb : Below w.heap.size w w3 := ((hb.trans (hb1.mono hz)).trans (hb2.mono (by omega))).trans (hb3.mono (by have := hb2.size; omega))
        go_wp2
        go_ret
        exact ⟨rfl, hbb⟩
end Go.Proofs.Ytjelmpajphajfaa
