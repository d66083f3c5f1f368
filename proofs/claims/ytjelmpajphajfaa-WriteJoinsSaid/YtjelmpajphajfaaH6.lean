/- Texts joined: Ref03h, Good, Law04a, Law04j, Law04n. -/
import Derived.Outline
import Derived.Deep.CutRange
import Derived.Test.YtjelmpajphajfaaH1
import Derived.Test.YtjelmpajphajfaaH2
import Derived.Test.YtjelmpajphajfaaH3
import Derived.Test.YtjelmpajphajfaaH4
import Derived.Test.YtjelmpajphajfaaH5
/- The reference of layer 3: nodes that may be, made of any. -/
namespace Go.Proofs.Ytjelmpajphajfaa
open Go.RowKit

/-- All texts are short. -/
def Sm1 (x : Nd) : Prop := x.name.size ≤ 30 ∧ x.text.size ≤ 30 ∧ ∀ a ∈ x.attrs, a.name.size ≤ 30 ∧ a.value.size ≤ 30
def Sm30 : List Nd → Prop
  | [] => True
  | .mk k n a t ks :: r => Sm1 (.mk k n a t ks) ∧ Sm30 ks ∧ Sm30 r
termination_by l => SizeOf.sizeOf l
theorem sm_nil : Sm30 [] := by rw [Sm30]; trivial
theorem sm_cons {x : Nd} {r : List Nd} : Sm30 (x :: r) ↔ Sm1 x ∧ Sm30 x.kids ∧ Sm30 r := by cases x; rw [Sm30]; rfl
theorem sm_iff {l : List Nd} : Sm30 l ↔ ∀ x ∈ l, Sm1 x ∧ Sm30 x.kids := by
  induction l with
  | nil => simp [sm_nil]
  | cons x r ih => rw [sm_cons, ih]; simp; exact ⟨fun h => ⟨⟨h.1, h.2.1⟩, h.2.2⟩, fun h => ⟨h.1.1, h.1.2, h.2⟩⟩
theorem cut_sm (l : List Nd) : ∀ m, Sm30 (M3.cut l m).1 := by
  induction l using Nd.ind with
  | h0 => intro m; rw [M3.cut_nil]; exact sm_nil
  | h1 k n ats t ks r ih1 ih2 =>
    intro m
    cases m with
    | zero => rw [M3.cut_zero]; exact sm_nil
    | succ m =>
      rw [M3.cut_cons]
      refine sm_cons.2 ⟨⟨few_size _, few_size _, fun a ha => ?_⟩, ih1 _, ih2 _⟩
      obtain ⟨b, _, rfl⟩ := List.mem_map.1 ha
      exact ⟨few_size _, few_size _⟩
theorem few_sm (l : List Nd) : Sm30 (fewN l) := cut_sm l 40

theorem good_len (l : List Nd) : (M3.goodN l).length = l.length := by rw [M3.goodN_map, List.length_map]
theorem good_weight (l : List Nd) : M3.weight (M3.goodN l) ≤ M3.weight l := by
  induction l using Nd.ind with
  | h0 => rw [M3.goodN_nil]; exact Nat.le_refl _
  | h1 k n ats t ks r ih1 ih2 =>
    rw [M3.goodN_cons, M3.weight_cons, M3.weight_cons, M3.good1_mk]
    have h1 := M3.goodA_len ats
    have h2 := weight_merge (M3.goodN ks)
    show _ ≤ 1 + ats.length + M3.weight ks + M3.weight r
    split
    · show 1 + (M3.goodA ats).length + M3.weight (M3.merge (M3.goodN ks)) + _ ≤ _; omega
    · show 1 + 0 + M3.weight [] + _ ≤ _; rw [M3.weight_nil]; omega
theorem good_texts (l : List Nd) (h : Sm30 l) : ∀ x ∈ M3.goodN l, x.text.size ≤ 120 := by
  intro x hx
  rw [M3.goodN_map] at hx
  obtain ⟨y, hy, rfl⟩ := List.mem_map.1 hx
  have := (sm_iff.1 h y hy).1.2.1
  unfold M3.good1
  split
  · show (⟨#[]⟩ : ByteArray).size ≤ _; decide
  · show (M3.rightN y.text).size ≤ _; have := M3.rightN_size y.text; omega
theorem good_txt (l : List Nd) (h : Sm30 l) : txtN (M3.goodN l) ≤ l.length * 120 := by
  have := txtN_fit _ 120 (good_texts l h)
  rwa [good_len] at this

/-- A new attribute of two calls' answers, in whatever order. -/
def AttI (wr : World) (av a1 a2 : ByteArray) (f : Nat → Bool) (t : Nat → Value) (W : World) : Prop :=
  Below wr.heap.size wr W ∧ (f 19 = true → f 23 = false → Sl W (t 19) (u8s av.data.toList)) ∧ (f 23 = true → f 22 = true ∧ f 20 = true) ∧
    (f 22 = true → ∃ ga, t 22 = .pointer (some ⟨ga, 0, none⟩) ∧ wr.heap.size ≤ ga ∧ Box W ga 44 (bif f 23 then [.string a1, .string a2] else [.string ⟨#[]⟩, .string ⟨#[]⟩]))
theorem AttI.start (wr : World) (av a1 a2 : ByteArray) (t : Nat → Value) {f : Nat → Bool} (h1 : f 19 = false) (h2 : f 22 = false) (h3 : f 23 = false) : AttI wr av a1 a2 f t wr.drew :=
  ⟨(Below.refl _ _).drew, (fun h => by rw [h1] at h; cases h), (fun h => by rw [h3] at h; cases h), (fun h => by rw [h2] at h; cases h)⟩
theorem AttI.next {wr W W' : World} {av a1 a2 : ByteArray} {f : Nat → Bool} {t : Nat → Value} (h : AttI wr av a1 a2 f t W) (hb : Below W.heap.size W W') : AttI wr av a1 a2 f t W' := by
  obtain ⟨h1, h2, h3, h4⟩ := h
  refine ⟨h1.trans (hb.mono h1.size), fun hf hg => (h2 hf hg).below hb, h3, fun hf => ?_⟩
  obtain ⟨ga, e, hg, hbx⟩ := h4 hf
  exact ⟨ga, e, hg, hbx.below hb hbx.lt⟩
theorem AttI.conv {wr W : World} {av a1 a2 : ByteArray} {f : Nat → Bool} {t : Nat → Value} {x : Value} (h : AttI wr av a1 a2 f t W) (hs : Sl W x (u8s av.data.toList)) : AttI wr av a1 a2 (updF f 19) (updT t 19 x) W :=
  ⟨h.1, fun _ _ => by rw [updT_same]; exact hs, h.2.2.1, h.2.2.2⟩
theorem AttI.right {wr W : World} {av a1 a2 : ByteArray} {f : Nat → Bool} {t : Nat → Value} {x : Value} (h : AttI wr av a1 a2 f t W) : AttI wr av a1 a2 (updF f 20) (updT t 20 x) W :=
  ⟨h.1, h.2.1, fun hf => ⟨(h.2.2.1 hf).1, updF_same _ _⟩, h.2.2.2⟩
theorem AttI.made {wr W : World} {av a1 a2 : ByteArray} {f : Nat → Bool} {t : Nat → Value} (h : AttI wr av a1 a2 f t W) (hf : f 22 = false) :
    AttI wr av a1 a2 (updF f 22) (updT t 22 (.pointer (some ⟨W.heap.size, 0, none⟩))) (W.alloc (.cells #[.string ⟨#[]⟩, .string ⟨#[]⟩] 44)) := by
  have h23 : f 23 = false := by
    cases h2 : f 23
    · rfl
    · rw [(h.2.2.1 h2).1] at hf; cases hf
  have hb : Below W.heap.size W (W.alloc (.cells #[.string ⟨#[]⟩, .string ⟨#[]⟩] 44)) := (Below.refl _ _).alloc (Nat.le_refl _) _
  have hn := h.next hb
  refine ⟨hn.1, hn.2.1, fun h => ⟨updF_same _ _, (hn.2.2.1 h).2⟩, fun _ => ⟨W.heap.size, rfl, h.1.size, ?_⟩⟩
  rw [updF_ne f (by decide), h23]
  exact Box.new W 44 [.string ⟨#[]⟩, .string ⟨#[]⟩]
theorem AttI.put {wr W : World} {av a1 a2 : ByteArray} {f : Nat → Bool} {t : Nat → Value} {ga : Nat} {v : Value} (h : AttI wr av a1 a2 f t W) (hf : f 22 = true) (hf2 : f 20 = true) (ht : t 22 = .pointer (some ⟨ga, 0, none⟩)) (hg : wr.heap.size ≤ ga) (hbx : Box W ga 44 [.string ⟨#[]⟩, .string ⟨#[]⟩]) :
    AttI wr av a1 a2 (updF f 23) (updT t 23 v) ((W.setCell ⟨ga, 0, none⟩ (.string a1)).setCell ⟨ga, 1, none⟩ (.string a2)) := by
  refine ⟨(h.1.setCell (p := ⟨ga, 0, none⟩) hg _).setCell (p := ⟨ga, 1, none⟩) hg _, (fun _ hf23 => by rw [updF_same] at hf23; cases hf23), fun _ => ⟨by rw [updF_ne f (by decide)]; exact hf, by rw [updF_ne f (by decide)]; exact hf2⟩, fun _ => ⟨ga, by rw [updT_ne t v (by decide)]; exact ht, hg, ?_⟩⟩
  rw [updF_same]
  exact (hbx.set 0 (.string a1)).set 1 (.string a2)
theorem cell_alloc_swap {w : World} {o o' : Obj} {b c : Nat} {v : Value} (h : (w.alloc o).cell? ⟨b, c, none⟩ = some v) (hb : b < w.heap.size) : (w.alloc o').cell? ⟨b, c, none⟩ = some v := by
  have h1 := ((Below.refl w.heap.size w).alloc (Nat.le_refl _) o).cell (p := ⟨b, c, none⟩) hb
  have h2 := ((Below.refl w.heap.size w).alloc (Nat.le_refl _) o').cell (p := ⟨b, c, none⟩) hb
  rw [h2, ← h1]; exact h
theorem cell_of_below {B : Nat} {w w' : World} (hb : Below B w w') {b o : Nat} {v : Value} (h : w.cell? ⟨b, o, none⟩ = some v) (hlt : b < B) : w'.cell? ⟨b, o, none⟩ = some v := (hb.cell (p := ⟨b, o, none⟩) hlt).trans h
set_option maxHeartbeats 8000000 in
set_option maxRecDepth 100000 in
theorem ref03good (wt : Nat) : ∀ (S : Nat → Prop) (v : Value) (l : List Nd) (w : World), M3.weight l < wt → M3.weight l ≤ 1000000 → Sm30 l → (∀ b, S b → b < w.heap.size) → RepN S w v l →
    Calls Try.prog 46 #[v] w (FreshPost (M3.good l) w) := by
  induction wt with
  | zero => intro S v l w h; omega
  | succ wt ih =>
  intro S v l w hwt hw6 hsm hS hr
  have hll := M3.length_le_weight l
  obtain ⟨a, cap, rfl⟩ := hr.slice
  obtain ⟨_, hlc, hcm⟩ := hr.len
  replace ih := Lib.hid ih
  replace hsm := Lib.hid hsm
  go_enter Try.func46, Try.ntmps46
  go_wp2_with fail
  go_loopw [3, 4, 5, 6, 7, 8, 9] (fun u3 u4 _ _ _ _ _ wr => ∃ i : Nat, i ≤ l.length ∧ u4 = .int .i64 (i : Int) ∧ Fresh wr w.heap.size u3 (M3.goodN (l.take i)) ∧ Below w.heap.size w wr) (fun _ u4 _ _ _ _ _ _ => l.length - (intOf u4).toNat)
  case atStart => exact ⟨0, by omega, rfl, by rw [List.take_zero, M3.goodN_nil]; exact Fresh.nil _ _, Below.refl _ _⟩
  case round =>
    obtain ⟨i, hi, rfl, hf, hb⟩ := hrel
    have hz := hb.size
    by_cases hlt : i < l.length
    · obtain ⟨b, off, va, vk, rfl, hSb, c0, c1, c2, c3, c4, hrv⟩ := (hr.below hS hb).at_ i hlt
      have hbl := hS b hSb
      obtain ⟨hs1, hs2⟩ := sm_iff.1 hsm.out _ (List.getElem_mem hlt)
      have hwk := weight_mem (List.getElem_mem hlt)
      have hwx := weight_le (List.getElem_mem hlt)
      have hgt : M3.goodN (l.take (i + 1)) = M3.goodN (l.take i) ++ [M3.good1 l[i]] := by rw [List.take_succ_eq_append_getElem hlt, M3.goodN_map, M3.goodN_map, List.map_append]; rfl
      have hAl : (M3.goodN (l.take i)).length ≤ 1000000 := by rw [good_len]; have := List.length_take_le i l; omega
      generalize l[i] = x at *
      replace hgt := Lib.hid hgt
      generalize hA : M3.goodN (l.take i) = A at *
      replace hA := Lib.hid hA
      obtain ⟨a1, e1, rfl⟩ := hrv.at_.slice
      obtain ⟨a2, e2, rfl⟩ := hrv.kids.slice
      have hI0 : (0 : Int) ≤ (i : Int) := by omega
      have hI1 : (i : Int) < (l.length : Int) := by omega
      obtain ⟨wo, rfl⟩ : ∃ wo : World, wo = wr := ⟨_, rfl⟩
      cases x with | mk kd n ats t ks =>
      simp only [Nd.kind, Nd.name, Nd.text, Nd.attrs, Nd.kids] at *
      have hat0 : Row S wo 2 (.slice a1 ats.length e1) ats.length (cellsA ats) := hrv.at_
      have hkd0 : RepN S wo (.slice a2 ks.length e2) ks := hrv.kids
      replace hkd0 := Lib.hid hkd0
      clear hrv
      obtain ⟨zs, F, hownA, hocA, hspA⟩ := hf
      replace hocA := Lib.hid hocA
      replace hspA := Lib.hid hspA
      have hg1 := M3.good1_mk kd n ats t ks
      have hts : t.size ≤ 30 := hs1.2.1
      have hns : n.size ≤ 30 := hs1.1
      have has : ∀ a ∈ ats, a.name.size ≤ 30 ∧ a.value.size ≤ 30 := hs1.2.2
      replace has := Lib.hid has
      have hblo : b < wo.heap.size := by omega
      by_cases hk1 : M3.kindN kd = 1
      · rw [if_pos hk1] at hg1
        have hkq : Hid ((decide (kd < 1) || decide (3 < kd)) = true ∨ kd = 1) := by
          show _ ∨ _
          unfold M3.kindN at hk1
          by_cases h : kd < 1 ∨ 3 < kd
          · left; simpa using h
          · right; rw [if_neg h] at hk1; exact hk1
        go_upto_region 6 with (fail)
        go_cut [29] from 10 to 110 (fun s29 wx => s29 = .bool (decide (kd < 1) || decide (3 < kd)) ∧ wx = wo.alloc (.cells #[.int .i64 kd, .string ⟨#[]⟩, .slice none 0 0, .string ⟨#[]⟩, .slice none 0 0] 28))
        case first =>
          by_cases h1 : kd < 1
          · go_wp2_with fail
            go_meet
            case rel => exact ⟨by rw [show decide (kd < 1) = true from decide_eq_true (by omega)]; rfl, rfl⟩
          · go_wp2_with fail
            go_meet
            case rel => exact ⟨by rw [show decide (kd < 1) = false from decide_eq_false (by omega)]; rfl, rfl⟩
        case rest =>
          obtain ⟨rfl, rfl⟩ := hcut
          go_upto_if 29 with (fail)
          go_cut [] from 10 to 110 (fun wx => wx = wo.alloc (.cells #[.int .i64 1, .string ⟨#[]⟩, .slice none 0 0, .string ⟨#[]⟩, .slice none 0 0] 28))
          case first =>
            generalize hq : (decide (kd < 1) || decide (3 < kd)) = q at *
            cases q
            · obtain rfl : kd = 1 := by rcases hkq.out with h | h; cases h; exact h
              go_wp2_with fail
              go_meet
              case rel => rfl
            · go_wp2_with fail
              go_meet
              case rel => rfl
          case rest =>
            have hbx1 := Box.new wo 28 [.int .i64 1, .string ⟨#[]⟩, .slice none 0 0, .string ⟨#[]⟩, .slice none 0 0]
            have hbo1 : Below wo.heap.size wo (wo.alloc (.cells #[.int .i64 1, .string ⟨#[]⟩, .slice none 0 0, .string ⟨#[]⟩, .slice none 0 0] 28)) := (Below.refl _ _).alloc (Nat.le_refl _) _
            have hso : (wo.alloc (.cells #[.int .i64 1, .string ⟨#[]⟩, .slice none 0 0, .string ⟨#[]⟩, .slice none 0 0] 28)).heap.size = wo.heap.size + 1 := by simp
            change Box (wo.alloc (.cells #[.int .i64 1, .string ⟨#[]⟩, .slice none 0 0, .string ⟨#[]⟩, .slice none 0 0] 28)) _ _ _ at hbx1
            rw [← hcut] at hbx1 hbo1 hso
            clear hcut
            have r1 := (hbo1.cell (p := ⟨b, off + i * 5 + 1, none⟩) hblo).trans c1
            have q0 := hbx1.cell (i := 0) rfl
            have hWd := Lib.hid (ref03Word n wc (by omega))
            have hwn := M3.wordN_size n 30 hns (by omega)
            generalize M3.wordN n = nm at *
            replace hso := Lib.hid hso
            go_wp2_with fail
            refine hWd.out.mono ?_
            rintro e w2 ⟨rfl, hb2⟩
            have hz2 := hb2.size
            have hbo2 : Below wo.heap.size wo w2 := hbo1.trans (hb2.mono (by have := hso.out; omega))
            have hbx2 := hbx1.below hb2 hbx1.lt
            have d1 := hbx2.cell (i := 1) rfl
            have f1 := hbx2.free 1
            clear hWd hbx1 hbo1 hb2 q0 r1
            go_wp2_with fail
            have hbx3 := hbx2.set 1 (.string nm)
            have hbo3 : Below wo.heap.size wo (w2.setCell ⟨wo.heap.size, 1, none⟩ (.string nm)) := hbo2.setCell (p := ⟨wo.heap.size, 1, none⟩) (Nat.le_refl _) _
            simp only [List.set_cons_succ, List.set_cons_zero] at hbx3
            obtain ⟨W3, hW3⟩ : ∃ W3, w2.setCell ⟨wo.heap.size, 1, none⟩ (.string nm) = W3 := ⟨_, rfl⟩
            rw [hW3] at hbx3 hbo3 ⊢
            clear hW3 hbx2 hbo2 d1 f1
            go_loopw [6, 7, 8, 9] (fun u6 _ _ _ wr => ∃ (k : Nat) (acc : List Att) (va : Value), k ≤ ats.length ∧ u6 = .int .i64 (k : Int) ∧ Box wr wo.heap.size 28 [.int .i64 1, .string nm, va, .string ⟨#[]⟩, .slice none 0 0] ∧ wr.ownsRow (wo.heap.size + 1) 44 2 va acc.length (cellsA acc) ∧ Hid (acc = M3.goodA (ats.take k)) ∧ Below wo.heap.size wo wr) (fun u6 _ _ _ _ => ats.length - (intOf u6).toNat)
            case atStart => exact ⟨0, [], _, by omega, rfl, hbx3, World.ownsRow_nil _ _ _ _, rfl, hbo3⟩
            case round =>
              obtain ⟨k, acc, va, hk, rfl, hbx, hown, hacc, hbo⟩ := hrel
              have hz3 := hbo.size
              have hgl := hbx.lt
              have r2 := (hbo.cell (p := ⟨b, off + i * 5 + 2, none⟩) hblo).trans c2
              clear hbx3 hbo3
              by_cases hkl : k < ats.length
              · obtain ⟨ab, aoff, rfl, hSab, p0, p1⟩ := (hat0.below (fun c hc => by have := hS c hc; omega) hbo).atA k hkl
                have habl := hS ab hSab
                obtain ⟨hsa, hsv⟩ := has.out _ (List.getElem_mem hkl)
                have htk : M3.goodA (ats.take (k + 1)) = M3.addA (M3.goodA (ats.take k)) ats[k] := by rw [List.take_succ_eq_append_getElem hkl, M3.goodA_snoc]
                have hacl : acc.length ≤ k := by rw [hacc.out]; have := M3.goodA_len (ats.take k); have := List.length_take_le k ats; omega
                have hadd : M3.addA acc ats[k] = if (M3.valueOf (M3.attrN ats[k].name) acc).isSome then acc else acc ++ [⟨M3.attrN ats[k].name, M3.rightN ats[k].value⟩] := rfl
                rw [← hacc.out, hadd] at htk
                clear hadd
                have hAt := Lib.hid (fun W => ref03Attribute ats[k].name W (by omega))
                generalize ats[k].name = an at *
                generalize ats[k].value = av at *
                have hK0 : (0 : Int) ≤ (k : Int) := by omega
                have hK1 : (k : Int) < (ats.length : Int) := by omega
                replace htk := Lib.hid htk
                go_upto_region 15 with (fail)
                refine wp_region_known (n := 24) ([some (.slice (some ⟨b, off, none⟩) l.length cap), some (.int .i64 (i : Int)), some (.pointer (some ⟨b, off + i * 5, none⟩)), some (.pointer (some ⟨b, off + i * 5 + 2, none⟩)), some (.slice (some ⟨ab, aoff, none⟩) ats.length e1), some (.int .i64 (k : Int)), some (.pointer (some ⟨ab, aoff + k * 2, none⟩)), some (.pointer (some ⟨ab, aoff + k * 2, none⟩)), some (.string an), some (.string (M3.attrN an)), some (.slice (some ⟨b, off, none⟩) l.length cap), some (.int .i64 (i : Int)), some (.pointer (some ⟨b, off + i * 5, none⟩)), some (.pointer (some ⟨b, off + i * 5 + 2, none⟩)), some (.slice (some ⟨ab, aoff, none⟩) ats.length e1), some (.int .i64 (k : Int)), some (.pointer (some ⟨ab, aoff + k * 2, none⟩)), some (.pointer (some ⟨ab, aoff + k * 2 + 1, none⟩)), some (.string av), none, some (.string ⟨(M1.right av.data.toList).toArray⟩), some (.agg #[.string (M3.attrN an), .string ⟨(M1.right av.data.toList).toArray⟩]), none, none] : List (Option Value)) (fun t => ⟨#[Value.slice (some { block := b, off := off }) l.length cap, undef, Value.slice none 0 0, u3, Value.int IntKind.i64 ↑i, Value.pointer (some { block := wo.heap.size, off := 0 }), Value.int IntKind.i64 ↑k, t 22, u8, u9, u10, u11, u12, u13, u14, u15, u16, u17, u18, u19, u20, u21, u22, u23, u24, u25, u26, u27, u28, u29, u30, Value.pointer (some { block := wo.heap.size, off := 0 }), Value.int IntKind.i64 1, Value.bool false, u34, u35, u36, u37, u38, u39, u40, u41, u42, u43, u44, u45, Value.slice (some { block := b, off := off }) l.length cap, Value.int IntKind.i64 ↑i, Value.pointer (some { block := b, off := off + i * 5 }), Value.pointer (some { block := b, off := off + i * 5 + 1 }), Value.string n, Value.string nm, Value.pointer (some { block := wo.heap.size, off := 1 }), Value.int IntKind.i64 ↑k, Value.slice (some { block := b, off := off }) l.length cap, Value.int IntKind.i64 ↑i, Value.pointer (some { block := b, off := off + i * 5 }), Value.pointer (some { block := b, off := off + i * 5 + 2 }), Value.slice (some { block := ab, off := aoff }) ats.length e1, Value.int IntKind.i64 ↑ats.length, Value.bool true, u61, u62, t 0, t 1, t 2, t 3, t 4, t 5, t 6, t 7, t 8, t 9, t 10, t 11, t 12, t 13, t 14, t 15, t 16, t 17, t 18, t 19, t 20, t 21, u85, u86, u87, u88, u89, u90, u91, u92, u93, u94, u95, u96, u97, u98, u99, u100, u101, u102, u103, u104, u105, u106, u107, u108, u109, u110, undef, undef], []⟩) (fun f t W => AttI wr av (M3.attrN an) ⟨(M1.right av.data.toList).toArray⟩ f t W) (fun j => match j with | 0 => u63 | 1 => u64 | 2 => u65 | 3 => u66 | 4 => u67 | 5 => u68 | 6 => u69 | 7 => u70 | 8 => u71 | 9 => u72 | 10 => u73 | 11 => u74 | 12 => u75 | 13 => u76 | 14 => u77 | 15 => u78 | 16 => u79 | 17 => u80 | 18 => u81 | 19 => u82 | 20 => u83 | 21 => u84 | 22 => u7 | _ => undef) (by kernel_rfl) (by rfl) (by rfl) (by kernel_rfl) rfl ?i0 ?step ?fin
                case i0 =>
                  exact AttI.start _ _ _ _ _ (by simp) (by simp) (by simp)
                case step =>
                  intro i hi f t W hfi hwt hk hI
                  have s0 := cell_of_below hI.1 r2 (by omega)
                  have s1 := cell_of_below hI.1 p0 (by omega)
                  have s2 := cell_of_below hI.1 p1 (by omega)
                  obtain rfl | rfl | rfl | rfl | rfl | rfl | rfl | rfl | rfl | rfl | rfl | rfl | rfl | rfl | rfl | rfl | rfl | rfl | rfl | rfl | rfl | rfl | rfl | rfl : i = 0 ∨ i = 1 ∨ i = 2 ∨ i = 3 ∨ i = 4 ∨ i = 5 ∨ i = 6 ∨ i = 7 ∨ i = 8 ∨ i = 9 ∨ i = 10 ∨ i = 11 ∨ i = 12 ∨ i = 13 ∨ i = 14 ∨ i = 15 ∨ i = 16 ∨ i = 17 ∨ i = 18 ∨ i = 19 ∨ i = 20 ∨ i = 21 ∨ i = 22 ∨ i = 23 := by omega
                  · -- operation 0
                    replace hI := Lib.hid hI
                    replace hk := Lib.hid hk
                    clear hwt
                    refine wpOp_step rfl (fun K hK => ?_)
                    go_simp
                    exact hK _ _ ⟨_, by simp [updT], hk.out.at_ rfl, hI.out⟩
                  · -- operation 1
                    replace hI := Lib.hid hI
                    replace hk := Lib.hid hk
                    clear hwt
                    refine wpOp_step rfl (fun K hK => ?_)
                    go_simp
                    exact hK _ _ ⟨_, by simp [updT], hk.out.at_ rfl, hI.out⟩
                  · -- operation 2
                    have e0 : t 0 = .slice (some ⟨b, off, none⟩) l.length cap := hk 0 _ (hwt 0 (by kernel_rfl)) rfl
                    have e1 : t 1 = .int .i64 (i : Int) := hk 1 _ (hwt 1 (by kernel_rfl)) rfl
                    replace hI := Lib.hid hI
                    replace hk := Lib.hid hk
                    clear hwt
                    refine wpOp_step rfl (fun K hK => ?_)
                    go_simp
                    exact hK _ _ ⟨_, by simp [updT, e0, e1], hk.out.at_ rfl, hI.out⟩
                  · -- operation 3
                    have e2 : t 2 = .pointer (some ⟨b, off + i * 5, none⟩) := hk 2 _ (hwt 2 (by kernel_rfl)) rfl
                    replace hI := Lib.hid hI
                    replace hk := Lib.hid hk
                    clear hwt
                    refine wpOp_step rfl (fun K hK => ?_)
                    go_simp
                    exact hK _ _ ⟨_, by simp [updT, e2], hk.out.at_ rfl, hI.out⟩
                  · -- operation 4
                    have e3 : t 3 = .pointer (some ⟨b, off + i * 5 + 2, none⟩) := hk 3 _ (hwt 3 (by kernel_rfl)) rfl
                    replace hI := Lib.hid hI
                    replace hk := Lib.hid hk
                    clear hwt
                    refine wpOp_step rfl (fun K hK => ?_)
                    go_simp
                    exact hK _ _ ⟨_, by simp [updT, e3], hk.out.at_ rfl, hI.out⟩
                  · -- operation 5
                    replace hI := Lib.hid hI
                    replace hk := Lib.hid hk
                    clear hwt
                    refine wpOp_step rfl (fun K hK => ?_)
                    go_simp
                    exact hK _ _ ⟨_, by simp [updT], hk.out.at_ rfl, hI.out⟩
                  · -- operation 6
                    have e4 : t 4 = .slice (some ⟨ab, aoff, none⟩) ats.length e1 := hk 4 _ (hwt 4 (by kernel_rfl)) rfl
                    have e5 : t 5 = .int .i64 (k : Int) := hk 5 _ (hwt 5 (by kernel_rfl)) rfl
                    replace hI := Lib.hid hI
                    replace hk := Lib.hid hk
                    clear hwt
                    refine wpOp_step rfl (fun K hK => ?_)
                    go_simp
                    exact hK _ _ ⟨_, by simp [updT, e4, e5], hk.out.at_ rfl, hI.out⟩
                  · -- operation 7
                    have e6 : t 6 = .pointer (some ⟨ab, aoff + k * 2, none⟩) := hk 6 _ (hwt 6 (by kernel_rfl)) rfl
                    replace hI := Lib.hid hI
                    replace hk := Lib.hid hk
                    clear hwt
                    refine wpOp_step rfl (fun K hK => ?_)
                    go_simp
                    exact hK _ _ ⟨_, by simp [updT, e6], hk.out.at_ rfl, hI.out⟩
                  · -- operation 8
                    have e7 : t 7 = .pointer (some ⟨ab, aoff + k * 2, none⟩) := hk 7 _ (hwt 7 (by kernel_rfl)) rfl
                    replace hI := Lib.hid hI
                    replace hk := Lib.hid hk
                    clear hwt
                    refine wpOp_step rfl (fun K hK => ?_)
                    go_simp
                    exact hK _ _ ⟨_, by simp [updT, e7], hk.out.at_ rfl, hI.out⟩
                  · -- operation 9
                    have e8 : t 8 = .string an := hk 8 _ (hwt 8 (by kernel_rfl)) rfl
                    replace hk := Lib.hid hk
                    replace hI := Lib.hid hI
                    clear hwt
                    refine wpOp_step rfl (fun K hK => ?_)
                    go_simp
                    refine (hAt.out _).mono ?_
                    rintro e w5 ⟨rfl, hb5⟩
                    exact hK _ _ ⟨_, by simp [updT, e8], hk.out.at_ rfl, hI.out.next hb5⟩
                  · -- operation 10
                    replace hI := Lib.hid hI
                    replace hk := Lib.hid hk
                    clear hwt
                    refine wpOp_step rfl (fun K hK => ?_)
                    go_simp
                    exact hK _ _ ⟨_, by simp [updT], hk.out.at_ rfl, hI.out⟩
                  · -- operation 11
                    replace hI := Lib.hid hI
                    replace hk := Lib.hid hk
                    clear hwt
                    refine wpOp_step rfl (fun K hK => ?_)
                    go_simp
                    exact hK _ _ ⟨_, by simp [updT], hk.out.at_ rfl, hI.out⟩
                  · -- operation 12
                    have e10 : t 10 = .slice (some ⟨b, off, none⟩) l.length cap := hk 10 _ (hwt 10 (by kernel_rfl)) rfl
                    have e11 : t 11 = .int .i64 (i : Int) := hk 11 _ (hwt 11 (by kernel_rfl)) rfl
                    replace hI := Lib.hid hI
                    replace hk := Lib.hid hk
                    clear hwt
                    refine wpOp_step rfl (fun K hK => ?_)
                    go_simp
                    exact hK _ _ ⟨_, by simp [updT, e10, e11], hk.out.at_ rfl, hI.out⟩
                  · -- operation 13
                    have e12 : t 12 = .pointer (some ⟨b, off + i * 5, none⟩) := hk 12 _ (hwt 12 (by kernel_rfl)) rfl
                    replace hI := Lib.hid hI
                    replace hk := Lib.hid hk
                    clear hwt
                    refine wpOp_step rfl (fun K hK => ?_)
                    go_simp
                    exact hK _ _ ⟨_, by simp [updT, e12], hk.out.at_ rfl, hI.out⟩
                  · -- operation 14
                    have e13 : t 13 = .pointer (some ⟨b, off + i * 5 + 2, none⟩) := hk 13 _ (hwt 13 (by kernel_rfl)) rfl
                    replace hI := Lib.hid hI
                    replace hk := Lib.hid hk
                    clear hwt
                    refine wpOp_step rfl (fun K hK => ?_)
                    go_simp
                    exact hK _ _ ⟨_, by simp [updT, e13], hk.out.at_ rfl, hI.out⟩
                  · -- operation 15
                    replace hI := Lib.hid hI
                    replace hk := Lib.hid hk
                    clear hwt
                    refine wpOp_step rfl (fun K hK => ?_)
                    go_simp
                    exact hK _ _ ⟨_, by simp [updT], hk.out.at_ rfl, hI.out⟩
                  · -- operation 16
                    have e14 : t 14 = .slice (some ⟨ab, aoff, none⟩) ats.length e1 := hk 14 _ (hwt 14 (by kernel_rfl)) rfl
                    have e15 : t 15 = .int .i64 (k : Int) := hk 15 _ (hwt 15 (by kernel_rfl)) rfl
                    replace hI := Lib.hid hI
                    replace hk := Lib.hid hk
                    clear hwt
                    refine wpOp_step rfl (fun K hK => ?_)
                    go_simp
                    exact hK _ _ ⟨_, by simp [updT, e14, e15], hk.out.at_ rfl, hI.out⟩
                  · -- operation 17
                    have e16 : t 16 = .pointer (some ⟨ab, aoff + k * 2, none⟩) := hk 16 _ (hwt 16 (by kernel_rfl)) rfl
                    replace hI := Lib.hid hI
                    replace hk := Lib.hid hk
                    clear hwt
                    refine wpOp_step rfl (fun K hK => ?_)
                    go_simp
                    exact hK _ _ ⟨_, by simp [updT, e16], hk.out.at_ rfl, hI.out⟩
                  · -- operation 18
                    have e17 : t 17 = .pointer (some ⟨ab, aoff + k * 2 + 1, none⟩) := hk 17 _ (hwt 17 (by kernel_rfl)) rfl
                    replace hI := Lib.hid hI
                    replace hk := Lib.hid hk
                    clear hwt
                    refine wpOp_step rfl (fun K hK => ?_)
                    go_simp
                    exact hK _ _ ⟨_, by simp [updT, e17], hk.out.at_ rfl, hI.out⟩
                  · -- operation 19
                    have e18 : t 18 = .string av := hk 18 _ (hwt 18 (by kernel_rfl)) rfl
                    replace hk := Lib.hid hk
                    replace hI := Lib.hid hI
                    clear hwt
                    obtain ⟨x1, w1, hc1, y1, b1⟩ := conv_bytes W av (by omega)
                    refine wpOp_step rfl (fun K hK => ?_)
                    go_simp
                    exact hK _ _ ⟨_, by simp [updT, e18], hk.out.free rfl, (hI.out.next b1).conv y1⟩
                  · -- operation 20
                    have hf23 : f 23 = false := by
                      cases h2 : f 23
                      · rfl
                      · rw [(hI.2.2.1 h2).2] at hfi; cases hfi
                    have hsl := hI.2.1 (hwt 19 (by kernel_rfl)) hf23
                    replace hf23 := Lib.hid hf23
                    have hR := Lib.hid (ref01Right (t 19) av.data.toList W hsl (by show av.size ≤ _; omega))
                    replace hk := Lib.hid hk
                    replace hI := Lib.hid hI
                    clear hwt
                    refine wpOp_step rfl (fun K hK => ?_)
                    go_simp
                    refine hR.out.mono ?_
                    rintro e w5 ⟨rfl, hb5⟩
                    exact hK _ _ ⟨_, by simp [updT], hk.out.at_ rfl, (hI.out.next hb5).right⟩
                  · -- operation 21
                    have e9 : t 9 = .string (M3.attrN an) := hk 9 _ (hwt 9 (by kernel_rfl)) rfl
                    have e20 : t 20 = .string ⟨(M1.right av.data.toList).toArray⟩ := hk 20 _ (hwt 20 (by kernel_rfl)) rfl
                    replace hI := Lib.hid hI
                    replace hk := Lib.hid hk
                    clear hwt
                    refine wpOp_step rfl (fun K hK => ?_)
                    go_simp
                    exact hK _ _ ⟨_, by simp [updT, e9, e20], hk.out.at_ rfl, hI.out⟩
                  · -- operation 22
                    replace hk := Lib.hid hk
                    replace hI := Lib.hid hI
                    clear hwt
                    refine wpOp_step rfl (fun K hK => ?_)
                    go_simp
                    exact hK _ _ ⟨_, by simp [updT], hk.out.free rfl, hI.out.made hfi⟩
                  · -- operation 23
                    have e21 : t 21 = .agg #[.string (M3.attrN an), .string ⟨(M1.right av.data.toList).toArray⟩] := hk 21 _ (hwt 21 (by kernel_rfl)) rfl
                    obtain ⟨ga, e22, hga, hbx⟩ := hI.2.2.2 (hwt 22 (by kernel_rfl))
                    rw [hfi] at hbx
                    change Box W ga _ [.string ⟨#[]⟩, .string ⟨#[]⟩] at hbx
                    have y0 := hbx.cell (i := 0) rfl
                    have y1 := hbx.cell (i := 1) rfl
                    have z0 := hbx.free 0
                    have z1 := hbx.free 1
                    have f22 := Lib.hid (hwt 22 (by kernel_rfl))
                    have f20 := Lib.hid (hwt 20 (by kernel_rfl))
                    replace hk := Lib.hid hk
                    replace hI := Lib.hid hI
                    clear hwt
                    refine wpOp_step rfl (fun K hK => ?_)
                    go_simp
                    exact hK _ _ ⟨undef, by simp [updT, e21, e22], hk.out.free rfl, hI.out.put f22.out f20.out e22 hga hbx⟩
                case fin =>
                  intro f t W hall hk hI
                  obtain ⟨ga, e22, hga, hba⟩ := hI.2.2.2 (hall 22 (by omega))
                  rw [hall 23 (by omega)] at hba
                  change Box W ga _ [.string (M3.attrN an), .string ⟨(M1.right av.data.toList).toArray⟩] at hba
                  have hB := hI.1
                  clear hk hI hall hAt
                  dsimp only
                  rw [e22]
                  have hrr : (⟨(M1.right av.data.toList).toArray⟩ : ByteArray) = M3.rightN av := rfl
                  rw [hrr] at hba
                  clear hrr p0 p1 r2 e22
                  generalize M3.attrN an = an2 at *
                  generalize M3.rightN av = av2 at *
                  have hbn := hbx.below hB hgl
                  have hownW := own_below hown hB
                  obtain ⟨a6, e6, rfl⟩ := own_slice hown
                  have n0 := hbn.cell (i := 0) rfl
                  have n1 := hbn.cell (i := 1) rfl
                  have n2 := hbn.cell (i := 2) rfl
                  have n3 := hbn.cell (i := 3) rfl
                  have n4 := hbn.cell (i := 4) rfl
                  have m0 := hba.cell (i := 0) rfl
                  have m1 := hba.cell (i := 1) rfl
                  have hrowW : Row (fun b => b < W.heap.size) W 2 (.slice a6 acc.length e6) acc.length (cellsA acc) := Row.own hownW (fun g hg => (hownW.lt g hg).2)
                  have hVl := Lib.hid (ref03Value (fun b => b < W.heap.size) (.mk 1 nm acc ⟨#[]⟩ []) (.slice a6 acc.length e6) (.slice none 0 0) an2 W (fun _ h => h) hrowW ⟨_, _, _, rfl⟩)
                  have hboW : Below wo.heap.size wo W := hbo.trans (hB.mono hz3)
                  replace hownW := Lib.hid hownW
                  replace hown := Lib.hid hown
                  clear hbx hrowW
                  obtain ⟨o, ho⟩ : ∃ o, M3.valueOf an2 acc = o := ⟨_, rfl⟩
                  change Hid (Calls Try.prog 77 #[Value.agg #[.int .i64 1, .string nm, .slice a6 acc.length e6, .string ⟨#[]⟩, .slice none 0 0], .string an2] W fun e w' => e = .returned (valAns (M3.valueOf an2 acc)) ∧ Below W.heap.size W w') at hVl
                  rw [ho] at hVl htk
                  clear ho
                  go_wp2_with fail
                  cases o with
                  | some sv =>
                    replace htk : Hid (M3.goodA (ats.take (k + 1)) = acc) := htk
                    change Hid (Calls Try.prog 77 #[Value.agg #[.int .i64 1, .string nm, .slice a6 acc.length e6, .string ⟨#[]⟩, .slice none 0 0], .string an2] W fun e w' => e = .returned (.tuple #[.string sv, .bool true]) ∧ Below W.heap.size W w') at hVl
                    refine hVl.out.mono ?_
                    rintro e w6 ⟨rfl, hb6⟩
                    have hbo6 : Below wo.heap.size wo w6 := hboW.trans (hb6.mono (by have := hB.size; omega))
                    have hbn6 := hbn.below hb6 hbn.lt
                    have hown6 := own_below hownW.out hb6
                    clear hVl hbn hba n0 n1 n2 n3 n4 m0 m1
                    go_wp2_with fail
                    go_roundw
                    case rel => exact ⟨k + 1, acc, _, by omega, by go_num, hbn6, hown6, by show _ = _; rw [htk.out], hbo6⟩
                    case measure => exact meas_nat hkl
                  | none =>
                    replace htk : Hid (M3.goodA (ats.take (k + 1)) = acc ++ [⟨an2, av2⟩]) := htk
                    change Hid (Calls Try.prog 77 #[Value.agg #[.int .i64 1, .string nm, .slice a6 acc.length e6, .string ⟨#[]⟩, .slice none 0 0], .string an2] W fun e w' => e = .returned (.tuple #[.string ⟨#[]⟩, .bool false]) ∧ Below W.heap.size W w') at hVl
                    refine hVl.out.mono ?_
                    rintro e w6 ⟨rfl, hb6⟩
                    have hbo6 : Below wo.heap.size wo w6 := hboW.trans (hb6.mono (by have := hB.size; omega))
                    have hbn6 := hbn.below hb6 hbn.lt
                    have hba6 := hba.below hb6 hba.lt
                    have hown6 := own_below hownW.out hb6
                    have hgl6 := hbn6.lt
                    clear hVl hbn hba n0 n1 n2 n3 n4 m0 m1
                    have n2 := hbn6.cell (i := 2) rfl
                    have m0 := hba6.cell (i := 0) rfl
                    have m1 := hba6.cell (i := 1) rfl
                    have hbo6z : wo.heap.size + 1 ≤ w6.heap.size := by omega
                    go_wp2_with (at_builtin; refine wpList_appK _ [.string an2, .string av2] 2 rfl _ _ 26 44 rfl (wo.heap.size + 1) Try.underlying26 infoA rfl (by omega) _ acc.length (cellsA acc) rfl hown6 _ rfl rfl rfl (by simp [Value.oneCell']) (by omega) (by omega) hbo6z ?_; intro g cp w7 hown7 hgrow7 hat7; have hbn7 := hbn6.keep (hgrow7.block _ hgl6 (fun e => by have := (hown6.lt _ e.symm).1; omega)); have k2 := hbn7.cell (i := 2) rfl; have kf2 := hbn7.free 2)
                    have hbo7 : Below wo.heap.size wo w7 := hbo6.grown hgrow7 (by omega) (fun k hk => by have := (hown6.lt k hk).1; omega)
                    have hbn8 := hbn7.set 2 (.slice (some ⟨g, 0, none⟩) (acc.length + 1) cp)
                    simp only [List.set_cons_succ, List.set_cons_zero] at hbn8
                    have hbo8 : Below wo.heap.size wo (w7.setCell ⟨wo.heap.size, 2, none⟩ (.slice (some ⟨g, 0, none⟩) (acc.length + 1) cp)) := hbo7.setCell (p := ⟨wo.heap.size, 2, none⟩) (Nat.le_refl _) _
                    have hown8 : (w7.setCell ⟨wo.heap.size, 2, none⟩ (.slice (some ⟨g, 0, none⟩) (acc.length + 1) cp)).ownsRow (wo.heap.size + 1) 44 2 (.slice (some ⟨g, 0, none⟩) (acc.length + 1) cp) (acc ++ ([⟨an2, av2⟩] : List Att)).length (cellsA (acc ++ ([⟨an2, av2⟩] : List Att))) := by
                      rw [cellsA_append, List.length_append]
                      exact own_keep hown7 (fun g' hg' => Below.heap_setCell _ _ _ _ (by have := (hown7.lt g' hg').1; simp; omega))
                    clear hown7 hgrow7 hat7 k2 kf2
                    go_roundw
                    case rel => exact ⟨k + 1, acc ++ [⟨an2, av2⟩], _, by omega, by go_num, hbn8, hown8, by show _ = _; rw [htk.out], hbo8⟩
                    case measure => exact meas_nat hkl
              · obtain rfl : k = ats.length := by omega
                rw [List.take_length] at hacc
                have hgg : M3.good1 (.mk kd n ats t ks) = .mk 1 nm acc ⟨#[]⟩ (M3.good ks) := by rw [hacc.out]; exact hg1
                rw [hgg] at hgt
                have hacl : acc.length ≤ ats.length := by rw [hacc.out]; exact M3.goodA_len ats
                have r4 := (hbo.cell (p := ⟨b, off + i * 5 + 4, none⟩) hblo).trans c4
                obtain ⟨a6, e6, rfl⟩ := own_slice hown
                have hkw : M3.weight ks < wt := by have h0 : M3.weight ks < M3.weight l := hwk; omega
                have hkd := Lib.hid (ih.out S (.slice a2 ks.length e2) ks wr hkw (by omega) hs2 (fun c hc => by have := hS c hc; omega) (hkd0.out.below (fun c hc => by have := hS c hc; omega) hbo))
                clear hg1 hgg hacc c0 c1 c2 c3 c4
                go_wp2_with fail
                refine hkd.out.mono ?_
                rintro e w6 ⟨vk6, rfl, ⟨zk, Fk, hownk, hock, hspk⟩, hb6⟩
                obtain ⟨a7, e7, rfl⟩ := own_slice hownk
                have hbo6 : Below wo.heap.size wo w6 := hbo.trans (hb6.mono hz3)
                have hbn6 := hbx.below hb6 hgl
                have hgl6 := hbn6.lt
                have n0 := hbn6.cell (i := 0) rfl
                have n1 := hbn6.cell (i := 1) rfl
                have n2 := hbn6.cell (i := 2) rfl
                have n3 := hbn6.cell (i := 3) rfl
                have n4 := hbn6.cell (i := 4) rfl
                have nf4 := hbn6.free 4
                have hown6 := own_below hown hb6
                have hbo7 : Below wo.heap.size wo (w6.setCell ⟨wo.heap.size, 4, none⟩ (.slice a7 (M3.good ks).length e7)) := hbo6.setCell (p := ⟨wo.heap.size, 4, none⟩) (Nat.le_refl _) _
                have hsz7 : (w6.setCell ⟨wo.heap.size, 4, none⟩ (.slice a7 (M3.good ks).length e7)).heap.size = w6.heap.size := by simp [World.setCell]
                have hfar7 : ∀ c, c ≠ wo.heap.size → (w6.setCell ⟨wo.heap.size, 4, none⟩ (.slice a7 (M3.good ks).length e7)).heap[c]? = w6.heap[c]? := fun c hc => Below.heap_setCell _ _ _ _ (by simpa using hc)
                have hownA7 := own_below hownA hbo7
                have hsz8 : w.heap.size ≤ (w6.setCell ⟨wo.heap.size, 4, none⟩ (.slice a7 (M3.good ks).length e7)).heap.size := by omega
                have hown7 := own_keep hown6 (w' := w6.setCell ⟨wo.heap.size, 4, none⟩ (.slice a7 (M3.good ks).length e7)) (fun g hg => hfar7 g (by have := (hown6.lt g hg).1; omega))
                have hownk7 := own_keep hownk (w' := w6.setCell ⟨wo.heap.size, 4, none⟩ (.slice a7 (M3.good ks).length e7)) (fun g hg => hfar7 g (by have := (hownk.lt g hg).1; omega))
                have hock7 := OwnC.keep (w' := w6.setCell ⟨wo.heap.size, 4, none⟩ (.slice a7 (M3.good ks).length e7)) _ _ _ (fun c hc => hfar7 c (by have := (hspk.2 c (by simp [hc])).1; omega)) hock
                have hspa := Span.own hown
                replace hsz7 := Lib.hid hsz7
                replace hown7 := Lib.hid hown7
                replace hownk7 := Lib.hid hownk7
                replace hock7 := Lib.hid hock7
                replace hfar7 := Lib.hid hfar7
                replace hown := Lib.hid hown
                replace hown6 := Lib.hid hown6
                replace hownk := Lib.hid hownk
                clear hkd hock
                go_wp2_with (at_builtin; refine wpList_appK _ [.int .i64 1, .string nm, .slice a6 acc.length e6, .string ⟨#[]⟩, .slice a7 (M3.good ks).length e7] 5 rfl _ _ 22 28 rfl w.heap.size Try.underlying22 infoN rfl (by omega) u3 A.length zs rfl hownA7 w6.heap.size hsz7.out (by rfl) rfl (five_one _ _ _ _ _ _ _ _ _) (by omega) (by omega) hsz8 ?_; intro g cp w5 hown5 hgrow5 hat5)
                have hb5 : Below w.heap.size w w5 := below_own (hb.trans (hbo7.mono hz)) hownA7 hgrow5 hsz8 (Nat.le_refl _)
                have hfr5 : Fresh w5 w.heap.size (.slice (some ⟨g, 0, none⟩) (A.length + 1) cp) (A ++ [.mk 1 nm acc ⟨#[]⟩ (M3.good ks)]) := by
                  refine Fresh.snoc (W := w6.setCell ⟨wo.heap.size, 4, none⟩ (.slice a7 (M3.good ks).length e7)) (mid := wo.heap.size) (F := F) (zs2 := zk) (F2 := Fk) rfl hown5 hgrow5 hat5 (OwnC.keep _ _ _ (fun c h => hbo7.block c (hspA.out.2 c (by simp [h])).2) hocA.out) hspA.out (own_base hown7.out (fun _ _ => Nat.zero_le _)) (own_base hownk7.out (fun _ _ => Nat.zero_le _)) hock7.out ?_ hz (by have := hsz7.out; omega)
                  have h1 := Span.append hspa hspk (by omega) hb6.size
                  exact h1.mono (by omega) (by have := hsz7.out; omega)
                clear hown5 hgrow5 hat5
                go_roundw
                case rel => exact ⟨i + 1, by omega, by go_num, by rw [hgt.out]; exact hfr5, hb5⟩
                case measure => exact meas_nat hlt
      · rw [if_neg hk1] at hg1
        have hkk : M3.kindN kd = kd := by
          unfold M3.kindN at hk1 ⊢
          split at hk1
          · exact absurd rfl hk1
          · rename_i h; rw [if_neg h]
        rw [hkk] at hg1 hk1
        have hk23 : kd = 2 ∨ kd = 3 := by
          have := M3.kindN_in kd
          rw [hkk] at this
          omega
        obtain ⟨x1, w1, hc1, s1, b1⟩ := conv_bytes (wo.alloc (.cells #[.int .i64 kd, .string ⟨#[]⟩, .slice none 0 0, .string ⟨#[]⟩, .slice none 0 0] 28)) t (by omega)
        have hR := Lib.hid (ref01Right x1 _ w1 s1 (by show t.size ≤ _; omega))
        have hkd1 : (kd != 1) = true := by simp [bne]; omega
        have hkd2 : ¬ (kd < 1) := by omega
        have hkd3 : ¬ (3 < kd) := by omega
        have hbx0 := Box.new wo 28 [.int .i64 kd, .string ⟨#[]⟩, .slice none 0 0, .string ⟨#[]⟩, .slice none 0 0]
        have hbo0 : Below wo.heap.size wo (wo.alloc (.cells #[.int .i64 kd, .string ⟨#[]⟩, .slice none 0 0, .string ⟨#[]⟩, .slice none 0 0] 28)) := (Below.refl _ _).alloc (Nat.le_refl _) _
        have hso : (wo.alloc (.cells #[.int .i64 kd, .string ⟨#[]⟩, .slice none 0 0, .string ⟨#[]⟩, .slice none 0 0] 28)).heap.size = wo.heap.size + 1 := by simp
        have hz1 := b1.size
        rw [hso] at hz1
        have hbo1 : Below wo.heap.size wo w1 := hbo0.trans (b1.mono (by omega))
        have hbx1 := (show Box (wo.alloc (.cells #[.int .i64 kd, .string ⟨#[]⟩, .slice none 0 0, .string ⟨#[]⟩, .slice none 0 0] 28)) _ _ _ from hbx0).below b1 (by omega)
        have hgx : M3.good1 (.mk kd n ats t ks) = .mk kd ⟨#[]⟩ [] ⟨(M1.right t.data.toList).toArray⟩ [] := hg1
        have hrl := M1.right_len t.data.toList
        have htl : t.data.toList.length ≤ 30 := hts
        rw [hgx] at hgt
        clear hg1 hgx hbo0 hbx0 b1
        replace hso := Lib.hid hso
        generalize M1.right t.data.toList = rt at *
        go_wp2_with fail
        refine hR.out.mono ?_
        rintro e w2 ⟨rfl, hb2⟩
        have hz2 := hb2.size
        have hbo2 : Below wo.heap.size wo w2 := hbo1.trans (hb2.mono (by omega))
        have hbx2 := hbx1.below hb2 (by omega)
        have d0 := hbx2.cell (i := 0) rfl
        have d1 := hbx2.cell (i := 1) rfl
        have d2 := hbx2.cell (i := 2) rfl
        have d3 := hbx2.cell (i := 3) rfl
        have d4 := hbx2.cell (i := 4) rfl
        have f3 := hbx2.free 3
        have hbo3 : Below wo.heap.size wo (w2.setCell ⟨wo.heap.size, 3, none⟩ (.string ⟨rt.toArray⟩)) := hbo2.setCell (p := ⟨wo.heap.size, 3, none⟩) (Nat.le_refl _) _
        have hsz3 : (w2.setCell ⟨wo.heap.size, 3, none⟩ (.string ⟨rt.toArray⟩)).heap.size = w2.heap.size := by simp [World.setCell]
        have hsz4 : w.heap.size ≤ (w2.setCell ⟨wo.heap.size, 3, none⟩ (.string ⟨rt.toArray⟩)).heap.size := by omega
        have hown3 := own_below hownA hbo3
        replace hsz3 := Lib.hid hsz3
        clear hR hbx1 s1 c0 c1 c2 c3 c4
        go_wp2_with (at_builtin; refine wpList_appK _ [.int .i64 kd, .string ⟨#[]⟩, .slice none 0 0, .string ⟨rt.toArray⟩, .slice none 0 0] 5 rfl _ _ 22 28 rfl w.heap.size Try.underlying22 infoN rfl (by omega) u3 A.length zs rfl hown3 w2.heap.size hsz3.out (by rfl) rfl (five_one _ _ _ _ _ _ _ _ _) (by omega) (by omega) hsz4 ?_; intro g cp w5 hown5 hgrow5 hat5)
        have hb5 : Below w.heap.size w w5 := below_own (hb.trans (hbo3.mono hz)) hown3 hgrow5 hsz4 (Nat.le_refl _)
        have hfr5 : Fresh w5 w.heap.size (.slice (some ⟨g, 0, none⟩) (A.length + 1) cp) (A ++ [.mk kd ⟨#[]⟩ [] ⟨rt.toArray⟩ []]) := by
          refine Fresh.snoc (W := w2.setCell ⟨wo.heap.size, 3, none⟩ (.string ⟨rt.toArray⟩)) (mid := wo.heap.size) (F := F) (zs2 := []) (F2 := []) rfl hown5 hgrow5 hat5 (OwnC.keep _ _ _ (fun b h => hbo3.block b (hspA.out.2 b (by simp [h])).2) hocA.out) hspA.out (World.ownsRow_nil _ _ _ _) (World.ownsRow_nil _ _ _ _) (OwnC.nil _) (Span.nil _ _) hz (by have := hsz3.out; omega)
        clear hown5 hgrow5 hat5
        go_roundw
        case rel => exact ⟨i + 1, by omega, by go_num, by rw [hgt.out]; exact hfr5, hb5⟩
        case measure => exact meas_nat hlt
    · obtain rfl : i = l.length := by omega
      rw [List.take_length] at hf
      have hlg := good_len l
      have htx := good_txt l hsm.out
      have hM := Lib.hid (ref03MergeF w.heap.size u3 _ wr hz hf (by omega) (by omega))
      obtain ⟨a3, c3, hu3⟩ : ∃ a c, u3 = .slice a (M3.goodN l).length c := by obtain ⟨_, _, h, _⟩ := hf; exact own_slice h
      subst hu3
      clear hf hlg htx
      go_wp2_with fail
      refine hM.out.mono ?_
      rintro e w1 ⟨v1, rfl, hfr1, hb1⟩
      have hbb : Below w.heap.size w w1 := hb.trans (hb1.mono hz)
      clear hM
      replace hfr1 := Lib.hid hfr1
      go_wp2_with fail
      go_ret
      exact ⟨v1, rfl, hfr1.out, hbb⟩
end Go.Proofs.Ytjelmpajphajfaa

/- The reference of layer 3: nodes that may be, made of any: Good. -/
namespace Go.Proofs.Ytjelmpajphajfaa
open Go.RowKit

theorem fitN_all {l : List Nd} : FitN l ↔ ∀ x ∈ l, Fit1 x ∧ FitN x.kids := by
  induction l with
  | nil => simp [fitN_nil]
  | cons x r ih => rw [fitN_cons, ih]; simp; exact ⟨fun h => ⟨⟨h.1, h.2.1⟩, h.2.2⟩, fun h => ⟨h.1.1, h.1.2, h.2⟩⟩
theorem fit_merged {l : List Nd} (h : FitN l) (ht : txtN l ≤ 268435456) : FitN (M3.merge l) := by
  have h1 := M3.merge_all (P := fun x => (x.name.size ≤ 268435456 ∧ (∀ a ∈ x.attrs, a.name.size ≤ 268435456 ∧ a.value.size ≤ 268435456) ∧ 1 + x.attrs.length + M3.weight x.kids ≤ 1000000) ∧ FitN x.kids)
    (fun x y hx _ _ _ => by rw [M3.withText_name, M3.withText_attrs, M3.withText_kids]; exact hx) l (fun x hx => by have := fitN_all.1 h x hx; exact ⟨⟨this.1.1, this.1.2.2.1, this.1.2.2.2⟩, this.2⟩)
  have h2 := txtN_merge l
  refine fitN_all.2 (fun x hx => ?_)
  obtain ⟨⟨q1, q2, q3⟩, q4⟩ := h1 x hx
  have := txtN_mem hx
  exact ⟨⟨q1, by omega, q2, q3⟩, q4⟩
theorem fit_goodN (l : List Nd) : Sm30 l → M3.weight l ≤ 1000 → FitN (M3.goodN l) := by
  induction l using Nd.ind with
  | h0 => intro _ _; rw [M3.goodN_nil]; exact fitN_nil
  | h1 k n ats t ks r ih1 ih2 =>
    intro hs hw
    obtain ⟨s1, s2, s3⟩ := sm_cons.1 hs
    rw [M3.weight_cons] at hw
    have hw : 1 + ats.length + M3.weight ks + M3.weight r ≤ 1000 := hw
    rw [M3.goodN_cons, M3.good1_mk]
    refine fitN_cons.2 ?_
    by_cases h : M3.kindN k = 1
    · rw [if_pos h]
      have h1 := M3.goodA_len ats
      have h2 := weight_merge (M3.goodN ks)
      have h3 := good_weight ks
      have h4 := good_txt ks s2
      have h5 := M3.length_le_weight ks
      have h6 := M3.wordN_size n 30 s1.1 (by omega)
      refine ⟨⟨by show (M3.wordN n).size ≤ _; omega, by show (⟨#[]⟩ : ByteArray).size ≤ _; decide, ?_, by show 1 + (M3.goodA ats).length + M3.weight (M3.merge (M3.goodN ks)) ≤ _; omega⟩, fit_merged (ih1 s2 (by omega)) (by omega), ih2 s3 (by omega)⟩
      refine M3.goodA_all ats (fun a ha => ?_)
      have h7 := s1.2.2 a ha
      have h8 := M3.attrN_size a.name 30 h7.1 (by omega)
      have h9 := M3.rightN_size a.value
      exact ⟨by show (M3.attrN a.name).size ≤ _; omega, by show (M3.rightN a.value).size ≤ _; omega⟩
    · rw [if_neg h]
      have h6 := M3.rightN_size t
      have h7 : t.size ≤ 30 := s1.2.1
      refine ⟨⟨by show (⟨#[]⟩ : ByteArray).size ≤ _; decide, by show (M3.rightN t).size ≤ _; omega, fun a ha => (nomatch (show a ∈ ([] : List Att) from ha)), by show 1 + 0 + M3.weight [] ≤ _; rw [M3.weight_nil]; omega⟩, fitN_nil, ih2 s3 (by omega)⟩
theorem fit_szN (l : List Nd) (h : FitN l) : SzN l := by
  induction l using Nd.ind with
  | h0 => rw [SzN]; trivial
  | h1 k n ats t ks r ih1 ih2 =>
    obtain ⟨h1, h2, h3⟩ := fitN_cons.1 h
    refine szN_cons.2 ⟨⟨by have := h1.1; omega, by have := h1.2.1; omega, fun a ha => by have := h1.2.2.1 a ha; omega⟩, ih1 h2, ih2 h3⟩
/-- Nodes that may be, of any: what 'Good' tells. -/
def gdN (l : List Nd) : List Nd := M3.good (fewN l)
theorem gd_weight (l : List Nd) : M3.weight (gdN l) ≤ 240 :=
  Nat.le_trans (weight_merge _) (Nat.le_trans (good_weight _) (fewN_weight l))
theorem gd_fit (l : List Nd) : FitN (gdN l) := by
  have h1 := fewN_weight l
  have h2 := good_txt (fewN l) (few_sm l)
  have h3 := M3.length_le_weight (fewN l)
  exact fit_merged (fit_goodN _ (few_sm l) (by omega)) (by omega)
theorem gd_may (l : List Nd) : M3.mayE false (gdN l) = 0 := M3.good_may _

set_option maxHeartbeats 2000000 in
theorem ref03Good (S : Nat → Prop) (v : Value) (l : List Nd) (w : World) (hS : ∀ b, S b → b < w.heap.size) (hr : RepN S w v l) (hsz : SzN l) :
    Calls Try.prog 16 #[v] w (FreshPost (gdN l) w) := by
  have hF := Lib.hid (ref03Few S v l w hS hr hsz)
  obtain ⟨a, cap, rfl⟩ := hr.slice
  go_enter Try.func16, Try.ntmps16
  go_wp2_with fail
  refine hF.out.mono ?_
  rintro e w1 ⟨v1, rfl, hm1, hb1⟩
  have hG := Lib.hid (ref03good (M3.weight (fewN l) + 1) _ v1 (fewN l) w1 (by omega) (by have := fewN_weight l; omega) (few_sm l) (fun b h => h.2) hm1.rep)
  obtain ⟨a1, c1, rfl⟩ := hm1.rep.slice
  clear hm1 hF
  go_wp2_with fail
  refine hG.out.mono ?_
  rintro e w2 ⟨v2, rfl, hf2, hb2⟩
  have hb := bt hb1 hb2
  have hf3 := Lib.hid (hf2.base hb1.size)
  obtain ⟨a2, c2, rfl⟩ := hf2.rep.slice
  clear hf2
  go_wp2_with fail
  go_ret
  exact ⟨_, rfl, hf3.out, hb⟩
end Go.Proofs.Ytjelmpajphajfaa

/- The statements of layer 4: texts. -/
namespace Go.Proofs.Ytjelmpajphajfaa
open Go.RowKit

theorem ref03Void' (s : ByteArray) (w : World) : Calls Try.prog 34 #[.string s] w fun e w' => e = .returned (.bool (M3.voidB s.data.toList)) ∧ w = w' := (ref03Void s w).mono fun _ _ h => ⟨h.1, h.2.symm⟩
theorem gd_text (raw : Bool) (l : List Nd) : (M4.textB raw (gdN l)).length ≤ 1030792151040 := by
  have h1 := textB_len (gdN l) (gd_fit l) raw
  have h2 := gd_weight l
  omega
theorem gd_plain (l : List Nd) : (M4.plainT (gdN l)).length ≤ 1030792151040 := by
  have h1 := plainT_len (gdN l) (gd_fit l)
  have h2 := gd_weight l
  omega

set_option maxHeartbeats 4000000 in
set_option maxRecDepth 100000 in
theorem law04WriteTexts (l : List Nd) (S : Nat → Prop) (v : Value) (w : World) (hS : ∀ b, S b → b < w.heap.size) (hr : RepN S w v l) (hsz : SzN l) :
    Calls Try.prog 7 #[v] w fun e w' => e = .returned (.bool true) ∧ Below w.heap.size w w' := by
  have hG := Lib.hid (ref03Good S v l w hS hr hsz)
  have hgf := gd_fit l
  have hgl := gd_text false l
  obtain ⟨a, cap, rfl⟩ := hr.slice
  generalize gdN l = L at *
  go_enter Try.func7, Try.ntmps7
  go_wp2_with fail
  refine hG.out.mono ?_
  rintro e w1 ⟨v1, rfl, hf1, hb1⟩
  have hr1 := hf1.rep
  have hT := Lib.hid (writeTextOf _ v1 L w1 (fun b h => h.2) hr1 hgf (by omega))
  have hR := Lib.hid (fun W (hW : Below w1.heap.size w1 W) => ref04Text _ v1 L W (fun b (h : _ ∧ _) => Nat.lt_of_lt_of_le h.2 hW.size) (hr1.keep (fun b h => hW.block b h.2)) hgf (by omega))
  have hL := Lib.hid (fun W (hW : Below w1.heap.size w1 W) => writeLength _ v1 L W (fun b (h : _ ∧ _) => Nat.lt_of_lt_of_le h.2 hW.size) (hr1.keep (fun b h => hW.block b h.2)) hgf (by omega))
  obtain ⟨a1, c1, rfl⟩ := hr1.slice
  have hsz1 : (⟨(M4.textB false L).toArray⟩ : ByteArray).size = (M4.textB false L).length := rfl
  replace hsz1 := Lib.hid hsz1
  clear hf1 hr1 hG
  generalize M4.textB false L = T at *
  go_wp2_with fail
  refine hT.out.mono ?_
  rintro e w2 ⟨rfl, hb2⟩
  clear hT
  go_wp2_with fail
  refine (hR.out _ hb2).mono ?_
  rintro e w3 ⟨rfl, hb3⟩
  have hb13 := bt hb2 hb3
  clear hR
  go_wp2_with fail
  refine (hL.out _ hb13).mono ?_
  rintro e w4 ⟨rfl, hb4⟩
  clear hL
  go_wp2_with fail
  refine (lives04 _).mono ?_
  rintro e w5 ⟨rfl, hb5⟩
  have hbb := bt (bt (bt hb1 hb13) hb4) hb5
  go_wp2_with fail
  go_ret
  exact ⟨rfl, hbb⟩

set_option maxHeartbeats 8000000 in
set_option maxRecDepth 100000 in
theorem law04WriteEnds (l : List Nd) (S : Nat → Prop) (v : Value) (w : World) (hS : ∀ b, S b → b < w.heap.size) (hr : RepN S w v l) (hsz : SzN l) :
    Calls Try.prog 8 #[v] w fun e w' => e = .returned (.bool true) ∧ Below w.heap.size w w' := by
  have hG := Lib.hid (ref03Good S v l w hS hr hsz)
  have hgf := gd_fit l
  have hgp := gd_plain l
  have hgw := gd_weight l
  obtain ⟨a, cap, rfl⟩ := hr.slice
  generalize gdN l = L at *
  replace hgf := Lib.hid hgf
  go_enter Try.func8, Try.ntmps8
  go_wp2_with fail
  refine hG.out.mono ?_
  rintro e w1 ⟨v1, rfl, hf1, hb1⟩
  have hr1 := hf1.rep
  obtain ⟨a1, c1, rfl⟩ := hr1.slice
  obtain ⟨_, hlc, hcm⟩ := hr1.len
  replace hr1 := Lib.hid hr1
  clear hf1 hG
  go_wp2_with fail
  go_loopw [4, 5, 6] (fun u4 _ _ wr => ∃ i : Nat, i ≤ L.length ∧ u4 = .int .i64 (i : Int) ∧ Below w1.heap.size w1 wr) (fun u4 _ _ _ => L.length - (intOf u4).toNat)
  case atStart => exact ⟨0, by omega, rfl, Below.refl _ _⟩
  case round =>
    obtain ⟨i, hi, rfl, hb⟩ := hrel
    by_cases hlt : i < L.length
    · have hS1 : ∀ b, w.heap.size ≤ b ∧ b < w1.heap.size → b < w1.heap.size := fun b h => h.2
      obtain ⟨b, off, va, vk, rfl, hSb, p0, p1, p2, p3, p4, hrv⟩ := hr1.out.look hS1 hb i hlt
      have hfx := fitN_mem hgf.out (List.getElem_mem hlt)
      have hbl := hSb.2
      have hz := hb.size
      have hwl := weight_le (List.getElem_mem hlt)
      generalize L[i] = x at *
      obtain ⟨a3, e3, rfl⟩ := hrv.at_.slice
      obtain ⟨a4, e4, rfl⟩ := hrv.kids.slice
      have hI0 : (i : Int) < (L.length : Int) := by omega
      have hI1 : (0 : Int) ≤ (i : Int) := by omega
      have hns := hfx.1.1
      have hol : (M4.openB x).length ≤ 70368744177664 := by
        unfold M4.openB
        split
        · have h1 := M4.headB_len x.name x.attrs
          have h2 := M4.attsB_len x.attrs hfx.1.2.2.1
          have h3 := hfx.1.2.2.2
          omega
        · rw [List.length_nil]; omega
      have hcl : (M4.closeB x).length ≤ 70368744177664 := by
        unfold M4.closeB
        split
        · have h1 := M4.endB_len x.name
          omega
        · rw [List.length_nil]; omega
      replace hol := Lib.hid hol
      replace hcl := Lib.hid hcl
      replace hS1 := Lib.hid hS1
      replace hfx := Lib.hid hfx
      replace hrv := Lib.hid hrv
      have hc0 : Hid ((x.kind != 1) = true → (⟨#[]⟩ : ByteArray) = ⟨(M4.closeB x).toArray⟩) := by
        intro h
        have : x.kind ≠ 1 := by simpa using h
        unfold M4.closeB
        rw [if_neg this]
      have hc1 : Hid ((x.kind != 1) = false → M3.voidB x.name.data.toList = true → (⟨#[]⟩ : ByteArray) = ⟨(M4.closeB x).toArray⟩) := by
        intro h h2
        have : x.kind = 1 := by simpa using h
        unfold M4.closeB M4.endB
        rw [if_pos this, h2]
        rfl
      have hc2 : Hid ((x.kind != 1) = false → M3.voidB x.name.data.toList = false → (⟨#[60, 47]⟩ ++ x.name ++ ⟨#[62]⟩ : ByteArray) = ⟨(M4.closeB x).toArray⟩) := by
        intro h h2
        have : x.kind = 1 := by simpa using h
        refine str_two _ _ ?_
        unfold M4.closeB M4.endB
        rw [if_pos this, h2]
        simp
      rcases Bool.eq_false_or_eq_true (x.kind != 1) with hk | hk
      all_goals
        go_upto_if 36 with (go_at_call 34; refine (ref03Void' _ _).mono ?_; rintro e w' ⟨rfl, rfl⟩)
        go_cut [5, 6] (fun s5 _ wx => s5 = .string ⟨(M4.closeB x).toArray⟩ ∧ wr = wx)
        case first =>
          first
          | (have hc3 := Lib.hid (hc0.out hk)
             clear hc0 hc1 hc2
             go_wp2_with fail
             go_meet
             case rel => exact ⟨by rw [← hc3.out], rfl⟩)
          | (cases hvd : M3.voidB x.name.data.toList
             · have hc3 := Lib.hid (hc2.out hk hvd)
               clear hc0 hc1 hc2
               go_wp2_with fail
               go_meet
               case rel => exact ⟨by rw [← hc3.out], rfl⟩
             · have hc3 := Lib.hid (hc1.out hk hvd)
               clear hc0 hc1 hc2
               go_wp2_with fail
               go_meet
               case rel => exact ⟨by rw [← hc3.out], rfl⟩)
        case rest =>
          obtain ⟨rfl, rfl⟩ := hcut
          clear hc0 hc1 hc2
          have hO1 := Lib.hid (fun W (hW : Below wr.heap.size wr W) => writeOpen _ x (.slice a3 x.attrs.length e3) (.slice a4 x.kids.length e4) W (fun b h => Nat.lt_of_lt_of_le (hS1.out b h) (Nat.le_trans hz hW.size)) (hrv.out.keep (fun b h => (hW.block b (Nat.lt_of_lt_of_le (hS1.out b h) hz)).trans (hb.block b (hS1.out b h)))) hfx.out.1 hol.out)
          have hO2 := Lib.hid (fun W (hW : Below wr.heap.size wr W) => ref04Open _ x (.slice a3 x.attrs.length e3) (.slice a4 x.kids.length e4) W (fun b h => Nat.lt_of_lt_of_le (hS1.out b h) (Nat.le_trans hz hW.size)) (hrv.out.keep (fun b h => (hW.block b (Nat.lt_of_lt_of_le (hS1.out b h) hz)).trans (hb.block b (hS1.out b h)))) hfx.out.1)
          have hC1 := Lib.hid (fun W (hW : Below wr.heap.size wr W) => writeClose x (.slice a3 x.attrs.length e3) (.slice a4 x.kids.length e4) W ⟨_, _, _, rfl⟩ ⟨_, _, _, rfl⟩ hcl.out)
          go_wp2_with fail
          refine wp_region_known (n := 20) ([some (Value.slice (some ⟨b, off, none⟩) L.length c1), some (Value.int IntKind.i64 (i : Int)), some (.pointer (some ⟨b, off + i * 5, none⟩)), some (x.val (.slice a3 x.attrs.length e3) (.slice a4 x.kids.length e4)), some (.string ⟨(M4.openB x).toArray⟩), some (Value.slice (some ⟨b, off, none⟩) L.length c1), some (Value.int IntKind.i64 (i : Int)), some (.pointer (some ⟨b, off + i * 5, none⟩)), some (x.val (.slice a3 x.attrs.length e3) (.slice a4 x.kids.length e4)), some (.string ⟨(M4.openB x).toArray⟩), some (.bool false), some (.bool false), some (Value.slice (some ⟨b, off, none⟩) L.length c1), some (Value.int IntKind.i64 (i : Int)), some (.pointer (some ⟨b, off + i * 5, none⟩)), some (x.val (.slice a3 x.attrs.length e3) (.slice a4 x.kids.length e4)), some (.string ⟨(M4.closeB x).toArray⟩), some (Value.string { data := (M4.closeB x).toArray }), some (.bool false), some (.bool false)] : List (Option Value)) (fun t => ⟨#[Value.slice a l.length cap, undef, u2, Value.slice (some ⟨b, off, none⟩) L.length c1, Value.int IntKind.i64 (i : Int), Value.string { data := (M4.closeB x).toArray }, u6, Value.slice a l.length cap, Value.slice (some ⟨b, off, none⟩) L.length c1, u9, u10, u11, u12, u13, u14, u15, u16, u17, u18, u19, u20, u21, u22, u23, u24, u25, u26, u27, u28, u29, u30, u31, u32, u33, u34, u35, u36, t 0, t 1, t 2, t 3, t 4, t 5, t 6, t 7, t 8, t 9, t 10, t 11, t 12, t 13, t 14, t 15, t 16, t 17, t 18, t 19, undef, undef, undef, undef, undef, undef, undef, undef], []⟩) (fun f t W => Below wr.heap.size wr W) (fun j => match j with | 0 => u37 | 1 => u38 | 2 => u39 | 3 => u40 | 4 => u41 | 5 => u42 | 6 => u43 | 7 => u44 | 8 => u45 | 9 => u46 | 10 => u47 | 11 => u48 | 12 => u49 | 13 => u50 | 14 => u51 | 15 => u52 | 16 => u53 | 17 => u54 | 18 => u55 | 19 => u56 | _ => undef) (by kernel_rfl) (by rfl) (by rfl) (by kernel_rfl) rfl ?i0 ?step ?fin
          case i0 =>
            exact (Below.refl _ wr).drew
          case step =>
            intro i hi f t W hfi hwt hk hI
            have s0 := cell_of_below hI p0 (by omega)
            have s1 := cell_of_below hI p1 (by omega)
            have s2 := cell_of_below hI p2 (by omega)
            have s3 := cell_of_below hI p3 (by omega)
            have s4 := cell_of_below hI p4 (by omega)
            obtain rfl | rfl | rfl | rfl | rfl | rfl | rfl | rfl | rfl | rfl | rfl | rfl | rfl | rfl | rfl | rfl | rfl | rfl | rfl | rfl : i = 0 ∨ i = 1 ∨ i = 2 ∨ i = 3 ∨ i = 4 ∨ i = 5 ∨ i = 6 ∨ i = 7 ∨ i = 8 ∨ i = 9 ∨ i = 10 ∨ i = 11 ∨ i = 12 ∨ i = 13 ∨ i = 14 ∨ i = 15 ∨ i = 16 ∨ i = 17 ∨ i = 18 ∨ i = 19 := by omega
            · -- operation 0
              replace hI := Lib.hid hI
              replace hk := Lib.hid hk
              clear hwt
              refine wpOp_step rfl (fun K hK => ?_)
              go_simp
              exact hK _ _ ⟨_, by simp [updT], hk.out.at_ rfl, hI.out⟩
            · -- operation 1
              replace hI := Lib.hid hI
              replace hk := Lib.hid hk
              clear hwt
              refine wpOp_step rfl (fun K hK => ?_)
              go_simp
              exact hK _ _ ⟨_, by simp [updT], hk.out.at_ rfl, hI.out⟩
            · -- operation 2
              have e0 : t 0 = Value.slice (some ⟨b, off, none⟩) L.length c1 := hk 0 _ (hwt 0 (by kernel_rfl)) rfl
              have e1 : t 1 = Value.int IntKind.i64 (i : Int) := hk 1 _ (hwt 1 (by kernel_rfl)) rfl
              replace hI := Lib.hid hI
              replace hk := Lib.hid hk
              clear hwt
              refine wpOp_step rfl (fun K hK => ?_)
              go_simp
              exact hK _ _ ⟨_, by simp [updT, e0, e1], hk.out.at_ rfl, hI.out⟩
            · -- operation 3
              have e2 : t 2 = .pointer (some ⟨b, off + i * 5, none⟩) := hk 2 _ (hwt 2 (by kernel_rfl)) rfl
              replace hI := Lib.hid hI
              replace hk := Lib.hid hk
              clear hwt
              refine wpOp_step rfl (fun K hK => ?_)
              go_simp
              exact hK _ _ ⟨_, by simp [updT, e2], hk.out.at_ rfl, hI.out⟩
            · -- operation 4
              have e3 : t 3 = x.val (.slice a3 x.attrs.length e3) (.slice a4 x.kids.length e4) := hk 3 _ (hwt 3 (by kernel_rfl)) rfl
              have hC := Lib.hid (hO1.out W hI)
              replace hk := Lib.hid hk
              replace hI := Lib.hid hI
              clear hwt
              refine wpOp_step rfl (fun K hK => ?_)
              go_simp
              refine hC.out.mono ?_
              rintro e w5 ⟨rfl, hb5⟩
              exact hK _ _ ⟨_, by simp [updT, e3], hk.out.at_ rfl, hI.out.trans (hb5.mono hI.out.size)⟩
            · -- operation 5
              replace hI := Lib.hid hI
              replace hk := Lib.hid hk
              clear hwt
              refine wpOp_step rfl (fun K hK => ?_)
              go_simp
              exact hK _ _ ⟨_, by simp [updT], hk.out.at_ rfl, hI.out⟩
            · -- operation 6
              replace hI := Lib.hid hI
              replace hk := Lib.hid hk
              clear hwt
              refine wpOp_step rfl (fun K hK => ?_)
              go_simp
              exact hK _ _ ⟨_, by simp [updT], hk.out.at_ rfl, hI.out⟩
            · -- operation 7
              have e5 : t 5 = Value.slice (some ⟨b, off, none⟩) L.length c1 := hk 5 _ (hwt 5 (by kernel_rfl)) rfl
              have e6 : t 6 = Value.int IntKind.i64 (i : Int) := hk 6 _ (hwt 6 (by kernel_rfl)) rfl
              replace hI := Lib.hid hI
              replace hk := Lib.hid hk
              clear hwt
              refine wpOp_step rfl (fun K hK => ?_)
              go_simp
              exact hK _ _ ⟨_, by simp [updT, e5, e6], hk.out.at_ rfl, hI.out⟩
            · -- operation 8
              have e7 : t 7 = .pointer (some ⟨b, off + i * 5, none⟩) := hk 7 _ (hwt 7 (by kernel_rfl)) rfl
              replace hI := Lib.hid hI
              replace hk := Lib.hid hk
              clear hwt
              refine wpOp_step rfl (fun K hK => ?_)
              go_simp
              exact hK _ _ ⟨_, by simp [updT, e7], hk.out.at_ rfl, hI.out⟩
            · -- operation 9
              have e8 : t 8 = x.val (.slice a3 x.attrs.length e3) (.slice a4 x.kids.length e4) := hk 8 _ (hwt 8 (by kernel_rfl)) rfl
              have hC := Lib.hid (hO2.out W hI)
              replace hk := Lib.hid hk
              replace hI := Lib.hid hI
              clear hwt
              refine wpOp_step rfl (fun K hK => ?_)
              go_simp
              refine hC.out.mono ?_
              rintro e w5 ⟨rfl, hb5⟩
              exact hK _ _ ⟨_, by simp [updT, e8], hk.out.at_ rfl, hI.out.trans (hb5.mono hI.out.size)⟩
            · -- operation 10
              have e4 : t 4 = .string ⟨(M4.openB x).toArray⟩ := hk 4 _ (hwt 4 (by kernel_rfl)) rfl
              have e9 : t 9 = .string ⟨(M4.openB x).toArray⟩ := hk 9 _ (hwt 9 (by kernel_rfl)) rfl
              replace hI := Lib.hid hI
              replace hk := Lib.hid hk
              clear hwt
              refine wpOp_step rfl (fun K hK => ?_)
              go_simp
              exact hK _ _ ⟨_, by simp [updT, e4, e9], hk.out.at_ rfl, hI.out⟩
            · -- operation 11
              have e10 : t 10 = .bool false := hk 10 _ (hwt 10 (by kernel_rfl)) rfl
              replace hI := Lib.hid hI
              replace hk := Lib.hid hk
              clear hwt
              refine wpOp_step rfl (fun K hK => ?_)
              go_simp
              exact hK _ _ ⟨_, by simp [updT, e10], hk.out.at_ rfl, hI.out⟩
            · -- operation 12
              have e11 : t 11 = .bool false := hk 11 _ (hwt 11 (by kernel_rfl)) rfl
              replace hI := Lib.hid hI
              replace hk := Lib.hid hk
              clear hwt
              refine wpOp_step rfl (fun K hK => ?_)
              go_simp
              exact hK _ _ ⟨_, by simp [updT, e11], hk.out.at_ rfl, hI.out⟩
            · -- operation 13
              have e11 : t 11 = .bool false := hk 11 _ (hwt 11 (by kernel_rfl)) rfl
              replace hI := Lib.hid hI
              replace hk := Lib.hid hk
              clear hwt
              refine wpOp_step rfl (fun K hK => ?_)
              go_simp
              exact hK _ _ ⟨_, by simp [updT, e11], hk.out.at_ rfl, hI.out⟩
            · -- operation 14
              have e11 : t 11 = .bool false := hk 11 _ (hwt 11 (by kernel_rfl)) rfl
              have e12 : t 12 = Value.slice (some ⟨b, off, none⟩) L.length c1 := hk 12 _ (hwt 12 (by kernel_rfl)) rfl
              have e13 : t 13 = Value.int IntKind.i64 (i : Int) := hk 13 _ (hwt 13 (by kernel_rfl)) rfl
              replace hI := Lib.hid hI
              replace hk := Lib.hid hk
              clear hwt
              refine wpOp_step rfl (fun K hK => ?_)
              go_simp
              exact hK _ _ ⟨_, by simp [updT, e11, e12, e13], hk.out.at_ rfl, hI.out⟩
            · -- operation 15
              have e11 : t 11 = .bool false := hk 11 _ (hwt 11 (by kernel_rfl)) rfl
              have e14 : t 14 = .pointer (some ⟨b, off + i * 5, none⟩) := hk 14 _ (hwt 14 (by kernel_rfl)) rfl
              replace hI := Lib.hid hI
              replace hk := Lib.hid hk
              clear hwt
              refine wpOp_step rfl (fun K hK => ?_)
              go_simp
              exact hK _ _ ⟨_, by simp [updT, e11, e14], hk.out.at_ rfl, hI.out⟩
            · -- operation 16
              have e11 : t 11 = .bool false := hk 11 _ (hwt 11 (by kernel_rfl)) rfl
              have e15 : t 15 = x.val (.slice a3 x.attrs.length e3) (.slice a4 x.kids.length e4) := hk 15 _ (hwt 15 (by kernel_rfl)) rfl
              have hC := Lib.hid (hC1.out W hI)
              replace hk := Lib.hid hk
              replace hI := Lib.hid hI
              clear hwt
              refine wpOp_step rfl (fun K hK => ?_)
              go_simp
              refine hC.out.mono ?_
              rintro e w5 ⟨rfl, hb5⟩
              exact hK _ _ ⟨_, by simp [updT, e11, e15], hk.out.at_ rfl, hI.out.trans (hb5.mono hI.out.size)⟩
            · -- operation 17
              have e11 : t 11 = .bool false := hk 11 _ (hwt 11 (by kernel_rfl)) rfl
              replace hI := Lib.hid hI
              replace hk := Lib.hid hk
              clear hwt
              refine wpOp_step rfl (fun K hK => ?_)
              go_simp
              exact hK _ _ ⟨_, by simp [updT, e11], hk.out.at_ rfl, hI.out⟩
            · -- operation 18
              have e11 : t 11 = .bool false := hk 11 _ (hwt 11 (by kernel_rfl)) rfl
              have e16 : t 16 = .string ⟨(M4.closeB x).toArray⟩ := hk 16 _ (hwt 16 (by kernel_rfl)) rfl
              have e17 : t 17 = Value.string { data := (M4.closeB x).toArray } := hk 17 _ (hwt 17 (by kernel_rfl)) rfl
              replace hI := Lib.hid hI
              replace hk := Lib.hid hk
              clear hwt
              refine wpOp_step rfl (fun K hK => ?_)
              go_simp
              exact hK _ _ ⟨_, by simp [updT, e11, e16, e17], hk.out.at_ rfl, hI.out⟩
            · -- operation 19
              have e11 : t 11 = .bool false := hk 11 _ (hwt 11 (by kernel_rfl)) rfl
              have e18 : t 18 = .bool false := hk 18 _ (hwt 18 (by kernel_rfl)) rfl
              replace hI := Lib.hid hI
              replace hk := Lib.hid hk
              clear hwt
              refine wpOp_step rfl (fun K hK => ?_)
              go_simp
              exact hK _ _ ⟨_, by simp [updT, e11, e18], hk.out.at_ rfl, hI.out⟩
          case fin =>
            intro f t W hall hk hI
            have e19 := hk 19 _ (hall 19 (by omega)) rfl
            clear hk hall
            dsimp only
            rw [e19]
            replace hI := Lib.hid hI
            clear hO1 hO2 hC1
            go_wp2_with fail
            go_roundw
            case rel => exact ⟨i + 1, by omega, by go_num, hb.trans (hI.out.mono hz)⟩
            case measure => exact wr_meas hlt
    · obtain rfl : i = L.length := by omega
      have hS1 : ∀ W : World, w1.heap.size ≤ W.heap.size → ∀ b, w.heap.size ≤ b ∧ b < w1.heap.size → b < W.heap.size := fun W hW b h => Nat.lt_of_lt_of_le h.2 hW
      have hP1 := Lib.hid (writePlain _ (.slice a1 L.length c1) L wr (hS1 _ hb.size) (hr1.out.keep (fun b h => hb.block b h.2)) hgf.out (by omega))
      have hP2 := Lib.hid (fun W (hW : Below wr.heap.size wr W) => ref04Plain (M3.weight L + 1) _ (.slice a1 L.length c1) L W (by omega) (hS1 _ (Nat.le_trans hb.size hW.size)) (hr1.out.keep (fun b h => (hW.block b (Nat.lt_of_lt_of_le h.2 hb.size)).trans (hb.block b h.2))) hgf.out (by omega))
      generalize M4.plainT L = T at *
      clear hS1
      go_wp2_with fail
      refine hP1.out.mono ?_
      rintro e w2 ⟨rfl, hb2⟩
      clear hP1
      go_wp2_with fail
      refine (hP2.out _ hb2).mono ?_
      rintro e w3 ⟨rfl, hb3⟩
      have hb4 := bt (bt (bt hb1 hb) hb2) hb3
      clear hP2
      go_wp2_with fail
      refine (lives04 _).mono ?_
      rintro e w5 ⟨rfl, hb5⟩
      have hbb := bt hb4 hb5
      go_wp2_with fail
      go_ret
      exact ⟨rfl, hbb⟩
end Go.Proofs.Ytjelmpajphajfaa

/- The statements of layer 4: two lists, one behind the other. -/
namespace Go.Proofs.Ytjelmpajphajfaa
open Go.RowKit

theorem RepC.ones {S : Nat → Prop} {w : World} (l : List Nd) : ∀ (xs : List Value), RepC S w xs l → ∀ u ∈ xs, u.oneCell' = true := by
  induction l using Nd.ind with
  | h0 => intro xs h; rw [RepC] at h; subst h; simp
  | h1 k n ats t ks r _ ih2 =>
    intro xs h
    obtain ⟨va, vk, ys, rfl, h2, h3, h5⟩ := RepC.cons_iff.1 h
    obtain ⟨a1, c1, rfl⟩ := h2.slice
    obtain ⟨a2, c2, rfl⟩ := h3.slice
    intro u hu
    simp only [List.mem_cons] at hu
    rcases hu with rfl | rfl | rfl | rfl | rfl | hu
    · rfl
    · rfl
    · rfl
    · rfl
    · rfl
    · exact ih2 _ h5 u hu
theorem ref03Raw' (s : ByteArray) (w : World) : Calls Try.prog 40 #[.string s] w fun e w' => e = .returned (.bool (M3.rawB s.data.toList)) ∧ w = w' := (ref03Raw s w).mono fun _ _ h => ⟨h.1, h.2.symm⟩
/-- One node of a list, as a list. -/
theorem RepN.sub {S : Nat → Prop} {w : World} {b off cap i : Nat} {x : Nd} {va vk : Value} (hS : S b) (hi : i < cap) (hcap : cap ≤ 9223372036854775807)
    (p0 : w.cell? ⟨b, off + i * 5, none⟩ = some (.int .i64 x.kind)) (p1 : w.cell? ⟨b, off + i * 5 + 1, none⟩ = some (.string x.name)) (p2 : w.cell? ⟨b, off + i * 5 + 2, none⟩ = some va) (p3 : w.cell? ⟨b, off + i * 5 + 3, none⟩ = some (.string x.text)) (p4 : w.cell? ⟨b, off + i * 5 + 4, none⟩ = some vk) (h : RepV S w x va vk) :
    RepN S w (.slice (some ⟨b, off + i * 5, none⟩) 1 (cap - i)) [x] := by
  refine ⟨x.cells va vk, ⟨rfl, some ⟨b, off + i * 5, none⟩, cap - i, rfl, by show 1 ≤ cap - i; omega, by omega, (fun h => by cases h), fun _ => ⟨b, off + i * 5, rfl, hS, fun j u hu => ?_⟩⟩, RepC.single h⟩
  match j, hu with
  | 0, hu => cases hu; exact p0
  | 1, hu => cases hu; exact p1
  | 2, hu => cases hu; exact p2
  | 3, hu => cases hu; exact p3
  | 4, hu => cases hu; exact p4
  | j + 5, hu => simp at hu

set_option maxHeartbeats 8000000 in
set_option maxRecDepth 100000 in
theorem law04WriteJoins (la lb : List Nd) (S : Nat → Prop) (va vb : Value) (w : World) (hS : ∀ b, S b → b < w.heap.size) (hra : RepN S w va la) (hrb : RepN S w vb lb) (hsa : SzN la) (hsb : SzN lb) :
    Calls Try.prog 9 #[va, vb] w fun e w' => e = .returned (.bool true) ∧ Below w.heap.size w w' := by
  have hGa := Lib.hid (ref03Good S va la w hS hra hsa)
  have hGb := Lib.hid (fun W (hW : Below w.heap.size w W) => ref03Good S vb lb W (fun b h => Nat.lt_of_lt_of_le (hS b h) hW.size) (hrb.keep (fun b h => hW.block b (hS b h))) hsb)
  have hfa := gd_fit la
  have hfb := gd_fit lb
  have hta := gd_text false la
  have htb := gd_text false lb
  have hwa := gd_weight la
  have hwb := gd_weight lb
  obtain ⟨a, cap, rfl⟩ := hra.slice
  obtain ⟨a', cap', rfl⟩ := hrb.slice
  generalize gdN la = A at *
  generalize gdN lb = B at *
  have hAl := M3.length_le_weight A
  have hBl := M3.length_le_weight B
  replace hfa := Lib.hid hfa
  replace hfb := Lib.hid hfb
  go_enter Try.func9, Try.ntmps9
  go_wp2_with fail
  refine hGa.out.mono ?_
  rintro e w1 ⟨v1, rfl, hf1, hb1⟩
  obtain ⟨zs1, hrow1, hrep1⟩ := hf1.rep
  obtain ⟨a1, c1, rfl⟩ := hrow1.slice
  clear hf1 hGa
  go_wp2_with fail
  refine (hGb.out _ hb1).mono ?_
  rintro e w2 ⟨v2, rfl, hf2, hb2⟩
  obtain ⟨zs2, hrow2, hrep2⟩ := hf2.rep
  obtain ⟨a2, c2, rfl⟩ := hrow2.slice
  have hz1 := hb1.size
  have hz2 := hb2.size
  have hrow12 : Row (fun b => w.heap.size ≤ b ∧ b < w2.heap.size) w2 5 (.slice a1 A.length c1) A.length zs1 := (hrow1.keep (fun b h => hb2.block b h.2)).mono (fun b h => ⟨h.1, by omega⟩)
  have hrep12 : RepC (fun b => w.heap.size ≤ b ∧ b < w2.heap.size) w2 zs1 A := RepC.mono (fun b h => ⟨h.1, by omega⟩) _ _ (RepC.keep (fun b h => hb2.block b h.2) _ _ hrep1)
  have hrow22 := hrow2.mono (S' := fun b => w.heap.size ≤ b ∧ b < w2.heap.size) (fun b h => ⟨by omega, h.2⟩)
  have hrep22 := RepC.mono (S' := fun b => w.heap.size ≤ b ∧ b < w2.heap.size) (fun b h => ⟨by omega, h.2⟩) _ _ hrep2
  have ho1 := RepC.ones _ _ hrep12
  have ho2 := RepC.ones _ _ hrep22
  have hb02 : Below w.heap.size w w2 := bt hb1 hb2
  clear hf2 hGb hrow1 hrep1 hrow2 hrep2
  replace hrow12 := Lib.hid hrow12
  replace hrep12 := Lib.hid hrep12
  replace hrow22 := Lib.hid hrow22
  replace hrep22 := Lib.hid hrep22
  replace ho1 := Lib.hid ho1
  replace ho2 := Lib.hid ho2
  obtain ⟨_, hlc1, hcm1⟩ := hrow12.out.len
  obtain ⟨_, hlc2, hcm2⟩ := hrow22.out.len
  go_wp2_with (first
    | (at_builtin; refine wpList_appRow _ rfl _ _ 22 28 rfl w2.heap.size 5 Try.underlying22 infoN rfl (by omega) _ 0 [] rfl (World.ownsRow_nil _ _ _ _) _ _ A.length zs1 rfl hrow12.out ho1.out (by omega) (by omega) (Nat.le_refl _) ?_; intro v3 w3 hown3 hgrow3; simp only [Nat.zero_add, List.nil_append] at hown3; obtain ⟨a3, c3, rfl⟩ := own_slice hown3; have hb3 := below_none hgrow3; have hown3' := Lib.hid hown3; clear hown3; have hz3 := hb3.size; have hrow23 := Lib.hid (hrow22.out.keep (w' := w3) (fun b h => hb3.block b h.2)))
    | (at_builtin; refine wpList_appRow _ rfl _ _ 22 28 rfl w2.heap.size 5 Try.underlying22 infoN rfl (by omega) _ A.length zs1 rfl hown3'.out _ _ B.length zs2 rfl hrow23.out ho2.out (by omega) (by omega) (by omega) ?_; intro v4 w4 hown4 hgrow4; obtain ⟨a4, c4, rfl⟩ := own_slice hown4; have hown4' := Lib.hid hown4; clear hown4))
  have hb24 : Below w2.heap.size w2 w4 := below_own hb3 hown3'.out hgrow4 hz3 (Nat.le_refl _)
  have hz4 := hb24.size
  have hrA : RepN (fun b => w.heap.size ≤ b ∧ b < w2.heap.size) w4 (.slice a1 A.length c1) A := ⟨zs1, hrow12.out.keep (fun b h => hb24.block b h.2), RepC.keep (fun b h => hb24.block b h.2) _ _ hrep12.out⟩
  have hrB : RepN (fun b => w.heap.size ≤ b ∧ b < w2.heap.size) w4 (.slice a2 B.length c2) B := ⟨zs2, hrow22.out.keep (fun b h => hb24.block b h.2), RepC.keep (fun b h => hb24.block b h.2) _ _ hrep22.out⟩
  have hrAB : RepN (fun b => b < w4.heap.size) w4 (.slice a4 (A.length + B.length) c4) (A ++ B) := by
    refine ⟨zs1 ++ zs2, by rw [List.length_append]; exact Row.own hown4'.out (fun g hg => (hown4'.out.lt g hg).2), ?_⟩
    refine RepC.mono (S := fun b => w.heap.size ≤ b ∧ b < w2.heap.size) (fun b h => Nat.lt_of_lt_of_le h.2 hz4) _ _ (RepC.append (m := B) ?_ A _ ?_)
    · exact RepC.keep (fun b h => hb24.block b h.2) _ _ hrep22.out
    · exact RepC.keep (fun b h => hb24.block b h.2) _ _ hrep12.out
  have hfAB : FitN (A ++ B) := fitN_append.2 ⟨hfa.out, hfb.out⟩
  have hlAB : (M4.textB false (A ++ B)).length = (M4.textB false A).length + (M4.textB false B).length := by rw [M4.textB_append, List.length_append]
  have hT := Lib.hid (show Calls Try.prog 30 #[.slice a4 (A.length + B.length) c4] w4 (StrPost (⟨(M4.textB false A).toArray⟩ ++ ⟨(M4.textB false B).toArray⟩) w4) from by
    have := writeTextOf _ _ (A ++ B) w4 (fun b h => h) hrAB hfAB (by omega)
    rw [M4.textB_append] at this
    rw [cat_two]
    exact this)
  have hTA := Lib.hid (fun W (hW : Below w4.heap.size w4 W) => (show Calls Try.prog 30 #[.slice a1 A.length c1] W (StrPost ⟨(M4.textB false A).toArray⟩ W) from writeTextOf _ _ A W (fun b h => Nat.lt_of_lt_of_le (Nat.lt_of_lt_of_le h.2 hz4) hW.size) (hrA.keep (fun b h => hW.block b (Nat.lt_of_lt_of_le h.2 hz4))) hfa.out (by omega)))
  have hTB := Lib.hid (fun W (hW : Below w4.heap.size w4 W) => (show Calls Try.prog 30 #[.slice a2 B.length c2] W (StrPost ⟨(M4.textB false B).toArray⟩ W) from writeTextOf _ _ B W (fun b h => Nat.lt_of_lt_of_le (Nat.lt_of_lt_of_le h.2 hz4) hW.size) (hrB.keep (fun b h => hW.block b (Nat.lt_of_lt_of_le h.2 hz4))) hfb.out (by omega)))
  have hL := Lib.hid (fun W (hW : Below w4.heap.size w4 W) => (show Calls Try.prog 32 #[.slice a4 (A.length + B.length) c4] W (IntPost (((M4.textB false A).length : Int) + ((M4.textB false B).length : Int)) W) from by
    have := writeLength _ _ (A ++ B) W (fun b h => Nat.lt_of_lt_of_le h hW.size) (hrAB.keep (fun b h => hW.block b h)) hfAB (by omega)
    rw [hlAB] at this
    exact this))
  have hLA := Lib.hid (fun W (hW : Below w4.heap.size w4 W) => (show Calls Try.prog 32 #[.slice a1 A.length c1] W (IntPost ((M4.textB false A).length : Int) W) from writeLength _ _ A W (fun b h => Nat.lt_of_lt_of_le (Nat.lt_of_lt_of_le h.2 hz4) hW.size) (hrA.keep (fun b h => hW.block b (Nat.lt_of_lt_of_le h.2 hz4))) hfa.out (by omega)))
  have hLB := Lib.hid (fun W (hW : Below w4.heap.size w4 W) => (show Calls Try.prog 32 #[.slice a2 B.length c2] W (IntPost ((M4.textB false B).length : Int) W) from writeLength _ _ B W (fun b h => Nat.lt_of_lt_of_le (Nat.lt_of_lt_of_le h.2 hz4) hW.size) (hrB.keep (fun b h => hW.block b (Nat.lt_of_lt_of_le h.2 hz4))) hfb.out (by omega)))
  have hsA : (⟨(M4.textB false A).toArray⟩ : ByteArray).size ≤ 1030792151040 := hta
  have hsB : (⟨(M4.textB false B).toArray⟩ : ByteArray).size ≤ 1030792151040 := htb
  have hnA : (0 : Int) ≤ ((M4.textB false A).length : Int) ∧ ((M4.textB false A).length : Int) ≤ 1030792151040 := by omega
  have hnB : (0 : Int) ≤ ((M4.textB false B).length : Int) ∧ ((M4.textB false B).length : Int) ≤ 1030792151040 := by omega
  have hb04 : Below w.heap.size w w4 := hb02.trans (hb24.mono (by omega))
  clear hrB hrAB hfAB hlAB hrow12 hrep12 hrow22 hrep22 ho1 ho2 hown3' hown4' hgrow4 hrow23 hta htb
  generalize (⟨(M4.textB false A).toArray⟩ : ByteArray) = TA at *
  generalize (⟨(M4.textB false B).toArray⟩ : ByteArray) = TB at *
  generalize ((M4.textB false A).length : Int) = nA at *
  generalize ((M4.textB false B).length : Int) = nB at *
  replace hrA := Lib.hid hrA
  refine hT.out.mono ?_
  rintro e w5 ⟨rfl, hb5⟩
  go_wp2_with fail
  refine (hTA.out _ hb5).mono ?_
  rintro e w6 ⟨rfl, hb6⟩
  have hb46 := bt hb5 hb6
  go_wp2_with fail
  refine (hTB.out _ hb46).mono ?_
  rintro e w7 ⟨rfl, hb7⟩
  have hb47 := bt hb46 hb7
  clear hT hTA hTB
  go_wp2_with fail
  refine (hL.out _ hb47).mono ?_
  rintro e w8 ⟨rfl, hb8⟩
  have hb48 := bt hb47 hb8
  go_wp2_with fail
  refine (hLA.out _ hb48).mono ?_
  rintro e w9 ⟨rfl, hb9⟩
  have hb49 := bt hb48 hb9
  go_wp2_with fail
  refine (hLB.out _ hb49).mono ?_
  rintro e w10 ⟨rfl, hb10⟩
  have hb410 := bt hb49 hb10
  clear hL hLA hLB hb5 hb6 hb7 hb8 hb9 hb10 hb46 hb47 hb48 hb49
  go_wp2_with fail
  go_loopw [8, 9, 10] (fun u8 _ _ wr => ∃ i : Nat, i ≤ A.length ∧ u8 = .int .i64 (i : Int) ∧ Below w4.heap.size w4 wr) (fun u8 _ _ _ => A.length - (intOf u8).toNat)
  case atStart => exact ⟨0, by omega, rfl, hb410⟩
  case round =>
    obtain ⟨i, hi, rfl, hb⟩ := hrel
    have hz := hb.size
    by_cases hlt : i < A.length
    · have hS1 : ∀ b, w.heap.size ≤ b ∧ b < w2.heap.size → b < w4.heap.size := fun b h => Nat.lt_of_lt_of_le h.2 hz4
      obtain ⟨b, off, va, vk, rfl, hSb, p0, p1, p2, p3, p4, hrv⟩ := hrA.out.look hS1 hb i hlt
      have hfx := fitN_mem hfa.out (List.getElem_mem hlt)
      have hbl := hS1 b hSb
      have hwl := weight_le (List.getElem_mem hlt)
      generalize A[i] = x at *
      obtain ⟨a5, c5, rfl⟩ := hrv.at_.slice
      obtain ⟨a6, c6, rfl⟩ := hrv.kids.slice
      have hI0 : (i : Int) < (A.length : Int) := by omega
      have hI1 : (0 : Int) ≤ (i : Int) := by omega
      replace hS1 := Lib.hid hS1
      replace hfx := Lib.hid hfx
      replace hrv := Lib.hid hrv
      go_wp2_with (first | (go_at_call 34; refine (ref03Void' _ _).mono ?_; rintro e w' ⟨rfl, rfl⟩) | (go_at_call 40; refine (ref03Raw' _ _).mono ?_; rintro e w' ⟨rfl, rfl⟩))
      cases hk : (x.kind == 1)
      · go_quiet (fail)
        go_wp2_with fail
        go_roundw
        case rel => exact ⟨i + 1, by omega, by go_num, below_drewN hb _⟩
        case measure => exact wr_meas hlt
      have k1 : x.kind = 1 := by simpa using hk
      have hcl : M4.closeB x = M4.endB x.name := by unfold M4.closeB; rw [if_pos k1]
      have hop : M4.openB x = M4.headB x.name x.attrs := by unfold M4.openB; rw [if_pos k1]
      have hon := M4.oneB_1 (raw := false) k1
      replace hcl := Lib.hid hcl
      replace hop := Lib.hid hop
      replace hon := Lib.hid hon
      replace k1 := Lib.hid k1
      cases hvd : M3.voidB x.name.data.toList
      case true =>
        go_quiet (fail)
        go_wp2_with fail
        go_roundw
        case rel => exact ⟨i + 1, by omega, by go_num, below_drewN hb _⟩
        case measure => exact wr_meas hlt
      cases hrw : M3.rawB x.name.data.toList
      case true =>
        go_quiet (fail)
        go_wp2_with fail
        go_roundw
        case rel => exact ⟨i + 1, by omega, by go_num, below_drewN hb _⟩
        case measure => exact wr_meas hlt
      obtain ⟨_, hlc3, hcm3⟩ := hrA.out.len
      have hf1 : FitN [x] := fitN_cons.2 ⟨hfx.out.1, hfx.out.2, fitN_nil⟩
      have hw1 : M3.weight [x] ≤ 240 := by rw [M3.weight_cons, M3.weight_nil]; omega
      have hl1 := textB_len [x] hf1 false
      have hl2 : (M4.textB false [x]).length = (M4.openB x).length + ((M4.textB false x.kids).length + (M4.closeB x).length) := by
        rw [M4.textB_cons, M4.textB_nil, hon.out, hvd, hrw, M4.innerB_no, hop.out, hcl.out]
        simp
      have hsub := fun W (hW : Below wr.heap.size wr W) => RepN.sub (w := W) (S := fun b => b < W.heap.size) (cap := c1) (x := x) (Nat.lt_of_lt_of_le hbl (Nat.le_trans hz hW.size)) (Nat.lt_of_lt_of_le hlt hlc3) hcm3 (cell_of_below hW p0 (by omega)) (cell_of_below hW p1 (by omega)) (cell_of_below hW p2 (by omega)) (cell_of_below hW p3 (by omega)) (cell_of_below hW p4 (by omega))
        ((hrv.out.keep (w' := W) (fun b h => (hW.block b (Nat.lt_of_lt_of_le (hS1.out b h) hz)).trans (hb.block b (hS1.out b h)))).mono (fun b h => Nat.lt_of_lt_of_le (hS1.out b h) (Nat.le_trans hz hW.size)))
      have hT1 := Lib.hid (fun W (hW : Below wr.heap.size wr W) => (show Calls Try.prog 30 #[.slice (some ⟨b, off + i * 5, none⟩) 1 (c1 - i)] W (StrPost (⟨(M4.openB x).toArray⟩ ++ ⟨(M4.textB false x.kids).toArray⟩ ++ ⟨(M4.closeB x).toArray⟩) W) from by
        have := writeTextOf _ _ [x] W (fun b h => h) (hsub W hW) hf1 (by omega)
        rw [M4.textB_cons, M4.textB_nil, hon.out, hvd, hrw, M4.innerB_no, List.append_nil, ← hop.out, ← hcl.out] at this
        rw [cat_two, cat_two, List.append_assoc]
        exact this))
      have hO := Lib.hid (fun W (hW : Below wr.heap.size wr W) => (show Calls Try.prog 35 #[x.val (.slice a5 x.attrs.length c5) (.slice a6 x.kids.length c6)] W (StrPost ⟨(M4.openB x).toArray⟩ W) from writeOpen _ x _ _ W (fun b h => Nat.lt_of_lt_of_le (hS1.out b h) (Nat.le_trans hz hW.size)) (hrv.out.keep (fun b h => (hW.block b (Nat.lt_of_lt_of_le (hS1.out b h) hz)).trans (hb.block b (hS1.out b h)))) hfx.out.1 (by omega)))
      have hK1 := Lib.hid (fun W (hW : Below wr.heap.size wr W) => (show Calls Try.prog 30 #[.slice a6 x.kids.length c6] W (StrPost ⟨(M4.textB false x.kids).toArray⟩ W) from writeTextOf _ _ x.kids W (fun b h => Nat.lt_of_lt_of_le (hS1.out b h) (Nat.le_trans hz hW.size)) (hrv.out.kids.keep (fun b h => (hW.block b (Nat.lt_of_lt_of_le (hS1.out b h) hz)).trans (hb.block b (hS1.out b h)))) hfx.out.2 (by omega)))
      have hC1 := Lib.hid (fun W (hW : Below wr.heap.size wr W) => (show Calls Try.prog 37 #[x.val (.slice a5 x.attrs.length c5) (.slice a6 x.kids.length c6)] W (StrPost ⟨(M4.closeB x).toArray⟩ W) from writeClose x _ _ W ⟨_, _, _, rfl⟩ ⟨_, _, _, rfl⟩ (by omega)))
      have hss : (⟨(M4.openB x).toArray⟩ : ByteArray).size + (⟨(M4.textB false x.kids).toArray⟩ : ByteArray).size + (⟨(M4.closeB x).toArray⟩ : ByteArray).size ≤ 1030792151040 := by
        show (M4.openB x).length + (M4.textB false x.kids).length + (M4.closeB x).length ≤ _
        omega
      clear hl1 hl2 hsub hf1 hw1 hcl hop hon
      have hwrap : IntKind.i64.wrap ((i : Int) + 1) = (i : Int) + 1 := IntWalk.i64_in _ ⟨by omega, by omega⟩
      have h89 : ¬ (9223372036854775807 < (⟨(M4.openB x).toArray⟩ : ByteArray).size + (⟨(M4.textB false x.kids).toArray⟩ : ByteArray).size) := by omega
      have h95 : ¬ (9223372036854775807 < (⟨(M4.openB x).toArray⟩ : ByteArray).size + (⟨(M4.textB false x.kids).toArray⟩ : ByteArray).size + (⟨(M4.closeB x).toArray⟩ : ByteArray).size) := by omega
      generalize (⟨(M4.openB x).toArray⟩ : ByteArray) = so at *
      generalize (⟨(M4.textB false x.kids).toArray⟩ : ByteArray) = sk at *
      generalize (⟨(M4.closeB x).toArray⟩ : ByteArray) = se at *
      refine wp_region_known (n := 41) ([some (Value.slice (some ⟨b, off, none⟩) A.length c1), some (Value.int IntKind.i64 (i : Int)), some (.pointer (some ⟨b, off + i * 5, none⟩)), some (.pointer (some ⟨b, off + i * 5, none⟩)), some (.int .i64 x.kind), some (.bool true), some (.bool true), some (Value.bool false), some (.bool true), some (.bool true), some (.bool true), some (Value.bool false), some (.bool true), some (.bool true), some (.bool true), some (Value.slice (some ⟨b, off, none⟩) A.length c1), some (Value.int IntKind.i64 (i : Int)), some (Value.int IntKind.i64 (i : Int)), some (.int .i64 ((i : Int) + 1)), some (.slice (some ⟨b, off + i * 5, none⟩) 1 (c1 - i)), some (.string (so ++ sk ++ se)), some (Value.slice (some ⟨b, off, none⟩) A.length c1), some (Value.int IntKind.i64 (i : Int)), some (.pointer (some ⟨b, off + i * 5, none⟩)), some (x.val (.slice a5 x.attrs.length c5) (.slice a6 x.kids.length c6)), some (.string so), some (Value.slice (some ⟨b, off, none⟩) A.length c1), some (Value.int IntKind.i64 (i : Int)), some (.pointer (some ⟨b, off + i * 5, none⟩)), some (.pointer (some ⟨b, off + i * 5 + 4, none⟩)), some (.slice a6 x.kids.length c6), some (.string sk), some (.string (so ++ sk)), some (Value.slice (some ⟨b, off, none⟩) A.length c1), some (Value.int IntKind.i64 (i : Int)), some (.pointer (some ⟨b, off + i * 5, none⟩)), some (x.val (.slice a5 x.attrs.length c5) (.slice a6 x.kids.length c6)), some (.string se), some (.string (so ++ sk ++ se)), some (.bool false), some (.bool false)] : List (Option Value)) (fun t => ⟨#[Value.slice a la.length cap, Value.slice a' lb.length cap', undef, undef, u4, Value.slice (some ⟨b, off, none⟩) A.length c1, Value.slice a2 B.length c2, Value.slice a4 (A.length + B.length) c4, Value.int IntKind.i64 (i : Int), Value.bool false, Value.bool false, Value.slice a la.length cap, Value.slice (some ⟨b, off, none⟩) A.length c1, Value.slice a' lb.length cap', Value.slice a2 B.length c2, Value.slice none 0 0, Value.slice (some ⟨b, off, none⟩) A.length c1, Value.slice a3 A.length c3, Value.slice a3 A.length c3, Value.slice a2 B.length c2, Value.slice a4 (A.length + B.length) c4, Value.slice a4 (A.length + B.length) c4, Value.string (TA ++ TB), Value.slice (some ⟨b, off, none⟩) A.length c1, Value.string TA, Value.slice a2 B.length c2, Value.string TB, Value.string (TA ++ TB), Value.bool false, Value.bool false, Value.slice a4 (A.length + B.length) c4, Value.int IntKind.i64 (nA + nB), Value.slice (some ⟨b, off, none⟩) A.length c1, Value.int IntKind.i64 nA, Value.slice a2 B.length c2, Value.int IntKind.i64 nB, Value.int IntKind.i64 (nA + nB), Value.bool false, Value.bool false, Value.int IntKind.i64 (i : Int), Value.slice (some ⟨b, off, none⟩) A.length c1, Value.int IntKind.i64 (A.length : Int), Value.bool true, u43, u44, Value.slice (some ⟨b, off, none⟩) A.length c1, Value.int IntKind.i64 (i : Int), Value.pointer (some ⟨b, off + i * 5, none⟩), Value.pointer (some ⟨b, off + i * 5 + 1, none⟩), Value.string x.name, Value.bool false, Value.slice (some ⟨b, off, none⟩) A.length c1, Value.int IntKind.i64 (i : Int), Value.pointer (some ⟨b, off + i * 5, none⟩), Value.pointer (some ⟨b, off + i * 5 + 1, none⟩), Value.string x.name, Value.bool false, t 0, t 1, t 2, t 3, t 4, t 5, t 6, t 7, t 8, t 9, t 10, t 11, t 12, t 13, t 14, t 15, t 16, t 17, t 18, t 19, t 20, t 21, t 22, t 23, t 24, t 25, t 26, t 27, t 28, t 29, t 30, t 31, t 32, t 33, t 34, t 35, t 36, t 37, t 38, t 39, t 40, undef], []⟩) (fun f t W => Below wr.heap.size wr W) (fun j => match j with | 0 => u57 | 1 => u58 | 2 => u59 | 3 => u60 | 4 => u61 | 5 => u62 | 6 => u63 | 7 => u64 | 8 => u65 | 9 => u66 | 10 => u67 | 11 => u68 | 12 => u69 | 13 => u70 | 14 => u71 | 15 => u72 | 16 => u73 | 17 => u74 | 18 => u75 | 19 => u76 | 20 => u77 | 21 => u78 | 22 => u79 | 23 => u80 | 24 => u81 | 25 => u82 | 26 => u83 | 27 => u84 | 28 => u85 | 29 => u86 | 30 => u87 | 31 => u88 | 32 => u89 | 33 => u90 | 34 => u91 | 35 => u92 | 36 => u93 | 37 => u94 | 38 => u95 | 39 => u96 | 40 => u97 | _ => undef) (by kernel_rfl) (by rfl) (by rfl) (by kernel_rfl) rfl ?i0 ?step ?fin
      case i0 =>
        exact (Below.refl _ wr).drew
      case step =>
        intro j0 hj0 f t W hfi hwt hk2 hI
        have s0 := cell_of_below hI p0 (by omega)
        have s1 := cell_of_below hI p1 (by omega)
        have s2 := cell_of_below hI p2 (by omega)
        have s3 := cell_of_below hI p3 (by omega)
        have s4 := cell_of_below hI p4 (by omega)
        obtain rfl | rfl | rfl | rfl | rfl | rfl | rfl | rfl | rfl | rfl | rfl | rfl | rfl | rfl | rfl | rfl | rfl | rfl | rfl | rfl | rfl | rfl | rfl | rfl | rfl | rfl | rfl | rfl | rfl | rfl | rfl | rfl | rfl | rfl | rfl | rfl | rfl | rfl | rfl | rfl | rfl : j0 = 0 ∨ j0 = 1 ∨ j0 = 2 ∨ j0 = 3 ∨ j0 = 4 ∨ j0 = 5 ∨ j0 = 6 ∨ j0 = 7 ∨ j0 = 8 ∨ j0 = 9 ∨ j0 = 10 ∨ j0 = 11 ∨ j0 = 12 ∨ j0 = 13 ∨ j0 = 14 ∨ j0 = 15 ∨ j0 = 16 ∨ j0 = 17 ∨ j0 = 18 ∨ j0 = 19 ∨ j0 = 20 ∨ j0 = 21 ∨ j0 = 22 ∨ j0 = 23 ∨ j0 = 24 ∨ j0 = 25 ∨ j0 = 26 ∨ j0 = 27 ∨ j0 = 28 ∨ j0 = 29 ∨ j0 = 30 ∨ j0 = 31 ∨ j0 = 32 ∨ j0 = 33 ∨ j0 = 34 ∨ j0 = 35 ∨ j0 = 36 ∨ j0 = 37 ∨ j0 = 38 ∨ j0 = 39 ∨ j0 = 40 := by omega
        · -- operation 0
          replace hI := Lib.hid hI
          replace hk2 := Lib.hid hk2
          clear hwt
          refine wpOp_step rfl (fun K hK => ?_)
          go_simp
          exact hK _ _ ⟨_, by simp [updT], hk2.out.at_ rfl, hI.out⟩
        · -- operation 1
          replace hI := Lib.hid hI
          replace hk2 := Lib.hid hk2
          clear hwt
          refine wpOp_step rfl (fun K hK => ?_)
          go_simp
          exact hK _ _ ⟨_, by simp [updT], hk2.out.at_ rfl, hI.out⟩
        · -- operation 2
          have e0 : t 0 = Value.slice (some ⟨b, off, none⟩) A.length c1 := hk2 0 _ (hwt 0 (by kernel_rfl)) rfl
          have e1 : t 1 = Value.int IntKind.i64 (i : Int) := hk2 1 _ (hwt 1 (by kernel_rfl)) rfl
          replace hI := Lib.hid hI
          replace hk2 := Lib.hid hk2
          clear hwt
          refine wpOp_step rfl (fun K hK => ?_)
          go_simp
          exact hK _ _ ⟨_, by simp [updT, e0, e1], hk2.out.at_ rfl, hI.out⟩
        · -- operation 3
          have e2 : t 2 = .pointer (some ⟨b, off + i * 5, none⟩) := hk2 2 _ (hwt 2 (by kernel_rfl)) rfl
          replace hI := Lib.hid hI
          replace hk2 := Lib.hid hk2
          clear hwt
          refine wpOp_step rfl (fun K hK => ?_)
          go_simp
          exact hK _ _ ⟨_, by simp [updT, e2], hk2.out.at_ rfl, hI.out⟩
        · -- operation 4
          have e3 : t 3 = .pointer (some ⟨b, off + i * 5, none⟩) := hk2 3 _ (hwt 3 (by kernel_rfl)) rfl
          replace hI := Lib.hid hI
          replace hk2 := Lib.hid hk2
          clear hwt
          refine wpOp_step rfl (fun K hK => ?_)
          go_simp
          exact hK _ _ ⟨_, by simp [updT, e3], hk2.out.at_ rfl, hI.out⟩
        · -- operation 5
          have e4 : t 4 = .int .i64 x.kind := hk2 4 _ (hwt 4 (by kernel_rfl)) rfl
          replace hI := Lib.hid hI
          replace hk2 := Lib.hid hk2
          clear hwt
          refine wpOp_step rfl (fun K hK => ?_)
          go_simp
          exact hK _ _ ⟨_, by simp [updT, e4], hk2.out.at_ rfl, hI.out⟩
        · -- operation 6
          have e5 : t 5 = .bool true := hk2 5 _ (hwt 5 (by kernel_rfl)) rfl
          replace hI := Lib.hid hI
          replace hk2 := Lib.hid hk2
          clear hwt
          refine wpOp_step rfl (fun K hK => ?_)
          go_simp
          exact hK _ _ ⟨_, by simp [updT, e5], hk2.out.at_ rfl, hI.out⟩
        · -- operation 7
          have e6 : t 6 = .bool true := hk2 6 _ (hwt 6 (by kernel_rfl)) rfl
          replace hI := Lib.hid hI
          replace hk2 := Lib.hid hk2
          clear hwt
          refine wpOp_step rfl (fun K hK => ?_)
          go_simp
          exact hK _ _ ⟨_, by simp [updT, e6], hk2.out.at_ rfl, hI.out⟩
        · -- operation 8
          have e6 : t 6 = .bool true := hk2 6 _ (hwt 6 (by kernel_rfl)) rfl
          have e7 : t 7 = Value.bool false := hk2 7 _ (hwt 7 (by kernel_rfl)) rfl
          replace hI := Lib.hid hI
          replace hk2 := Lib.hid hk2
          clear hwt
          refine wpOp_step rfl (fun K hK => ?_)
          go_simp
          exact hK _ _ ⟨_, by simp [updT, e6, e7], hk2.out.at_ rfl, hI.out⟩
        · -- operation 9
          have e6 : t 6 = .bool true := hk2 6 _ (hwt 6 (by kernel_rfl)) rfl
          have e8 : t 8 = .bool true := hk2 8 _ (hwt 8 (by kernel_rfl)) rfl
          replace hI := Lib.hid hI
          replace hk2 := Lib.hid hk2
          clear hwt
          refine wpOp_step rfl (fun K hK => ?_)
          go_simp
          exact hK _ _ ⟨_, by simp [updT, e6, e8], hk2.out.at_ rfl, hI.out⟩
        · -- operation 10
          have e9 : t 9 = .bool true := hk2 9 _ (hwt 9 (by kernel_rfl)) rfl
          replace hI := Lib.hid hI
          replace hk2 := Lib.hid hk2
          clear hwt
          refine wpOp_step rfl (fun K hK => ?_)
          go_simp
          exact hK _ _ ⟨_, by simp [updT, e9], hk2.out.at_ rfl, hI.out⟩
        · -- operation 11
          have e10 : t 10 = .bool true := hk2 10 _ (hwt 10 (by kernel_rfl)) rfl
          replace hI := Lib.hid hI
          replace hk2 := Lib.hid hk2
          clear hwt
          refine wpOp_step rfl (fun K hK => ?_)
          go_simp
          exact hK _ _ ⟨_, by simp [updT, e10], hk2.out.at_ rfl, hI.out⟩
        · -- operation 12
          have e10 : t 10 = .bool true := hk2 10 _ (hwt 10 (by kernel_rfl)) rfl
          have e11 : t 11 = Value.bool false := hk2 11 _ (hwt 11 (by kernel_rfl)) rfl
          replace hI := Lib.hid hI
          replace hk2 := Lib.hid hk2
          clear hwt
          refine wpOp_step rfl (fun K hK => ?_)
          go_simp
          exact hK _ _ ⟨_, by simp [updT, e10, e11], hk2.out.at_ rfl, hI.out⟩
        · -- operation 13
          have e10 : t 10 = .bool true := hk2 10 _ (hwt 10 (by kernel_rfl)) rfl
          have e12 : t 12 = .bool true := hk2 12 _ (hwt 12 (by kernel_rfl)) rfl
          replace hI := Lib.hid hI
          replace hk2 := Lib.hid hk2
          clear hwt
          refine wpOp_step rfl (fun K hK => ?_)
          go_simp
          exact hK _ _ ⟨_, by simp [updT, e10, e12], hk2.out.at_ rfl, hI.out⟩
        · -- operation 14
          have e13 : t 13 = .bool true := hk2 13 _ (hwt 13 (by kernel_rfl)) rfl
          replace hI := Lib.hid hI
          replace hk2 := Lib.hid hk2
          clear hwt
          refine wpOp_step rfl (fun K hK => ?_)
          go_simp
          exact hK _ _ ⟨_, by simp [updT, e13], hk2.out.at_ rfl, hI.out⟩
        · -- operation 15
          have e14 : t 14 = .bool true := hk2 14 _ (hwt 14 (by kernel_rfl)) rfl
          replace hI := Lib.hid hI
          replace hk2 := Lib.hid hk2
          clear hwt
          refine wpOp_step rfl (fun K hK => ?_)
          go_simp
          exact hK _ _ ⟨_, by simp [updT, e14], hk2.out.at_ rfl, hI.out⟩
        · -- operation 16
          have e14 : t 14 = .bool true := hk2 14 _ (hwt 14 (by kernel_rfl)) rfl
          replace hI := Lib.hid hI
          replace hk2 := Lib.hid hk2
          clear hwt
          refine wpOp_step rfl (fun K hK => ?_)
          go_simp
          exact hK _ _ ⟨_, by simp [updT, e14], hk2.out.at_ rfl, hI.out⟩
        · -- operation 17
          have e14 : t 14 = .bool true := hk2 14 _ (hwt 14 (by kernel_rfl)) rfl
          replace hI := Lib.hid hI
          replace hk2 := Lib.hid hk2
          clear hwt
          refine wpOp_step rfl (fun K hK => ?_)
          go_simp
          exact hK _ _ ⟨_, by simp [updT, e14], hk2.out.at_ rfl, hI.out⟩
        · -- operation 18
          have e14 : t 14 = .bool true := hk2 14 _ (hwt 14 (by kernel_rfl)) rfl
          have e17 : t 17 = Value.int IntKind.i64 (i : Int) := hk2 17 _ (hwt 17 (by kernel_rfl)) rfl
          replace hk2 := Lib.hid hk2
          replace hI := Lib.hid hI
          clear hwt
          refine wpOp_step rfl (fun K hK => ?_)
          go_simp
          exact hK _ _ ⟨_, by simp [updT, e14, e17], hk2.out.at_ rfl, hI.out⟩
        · -- operation 19
          have e14 : t 14 = .bool true := hk2 14 _ (hwt 14 (by kernel_rfl)) rfl
          have e15 : t 15 = Value.slice (some ⟨b, off, none⟩) A.length c1 := hk2 15 _ (hwt 15 (by kernel_rfl)) rfl
          have e16 : t 16 = Value.int IntKind.i64 (i : Int) := hk2 16 _ (hwt 16 (by kernel_rfl)) rfl
          have e18 : t 18 = .int .i64 ((i : Int) + 1) := hk2 18 _ (hwt 18 (by kernel_rfl)) rfl
          replace hk2 := Lib.hid hk2
          replace hI := Lib.hid hI
          clear hwt
          refine wpOp_step rfl (fun K hK => ?_)
          go_simp
          have g1 : (0 : Int) ≤ (i : Int) + 1 ∧ (i : Int) + 1 ≤ (c1 : Int) := by omega
          have g2 : ¬ (c1 = i) := by omega
          rw [if_pos g1, if_neg g2]
          exact hK _ _ ⟨_, by simp [updT, Act.put, e14, e15, e16, e18], hk2.out.at_ rfl, hI.out⟩
        · -- operation 20
          have e14 : t 14 = .bool true := hk2 14 _ (hwt 14 (by kernel_rfl)) rfl
          have e19 : t 19 = .slice (some ⟨b, off + i * 5, none⟩) 1 (c1 - i) := hk2 19 _ (hwt 19 (by kernel_rfl)) rfl
          have hC := Lib.hid (hT1.out W hI)
          replace hk2 := Lib.hid hk2
          replace hI := Lib.hid hI
          clear hwt
          refine wpOp_step rfl (fun K hK => ?_)
          go_simp
          refine hC.out.mono ?_
          rintro e w5 ⟨rfl, hb5⟩
          exact hK _ _ ⟨_, by simp [updT, e14, e19], hk2.out.at_ rfl, hI.out.trans (hb5.mono hI.out.size)⟩
        · -- operation 21
          have e14 : t 14 = .bool true := hk2 14 _ (hwt 14 (by kernel_rfl)) rfl
          replace hI := Lib.hid hI
          replace hk2 := Lib.hid hk2
          clear hwt
          refine wpOp_step rfl (fun K hK => ?_)
          go_simp
          exact hK _ _ ⟨_, by simp [updT, e14], hk2.out.at_ rfl, hI.out⟩
        · -- operation 22
          have e14 : t 14 = .bool true := hk2 14 _ (hwt 14 (by kernel_rfl)) rfl
          replace hI := Lib.hid hI
          replace hk2 := Lib.hid hk2
          clear hwt
          refine wpOp_step rfl (fun K hK => ?_)
          go_simp
          exact hK _ _ ⟨_, by simp [updT, e14], hk2.out.at_ rfl, hI.out⟩
        · -- operation 23
          have e14 : t 14 = .bool true := hk2 14 _ (hwt 14 (by kernel_rfl)) rfl
          have e21 : t 21 = Value.slice (some ⟨b, off, none⟩) A.length c1 := hk2 21 _ (hwt 21 (by kernel_rfl)) rfl
          have e22 : t 22 = Value.int IntKind.i64 (i : Int) := hk2 22 _ (hwt 22 (by kernel_rfl)) rfl
          replace hI := Lib.hid hI
          replace hk2 := Lib.hid hk2
          clear hwt
          refine wpOp_step rfl (fun K hK => ?_)
          go_simp
          exact hK _ _ ⟨_, by simp [updT, e14, e21, e22], hk2.out.at_ rfl, hI.out⟩
        · -- operation 24
          have e14 : t 14 = .bool true := hk2 14 _ (hwt 14 (by kernel_rfl)) rfl
          have e23 : t 23 = .pointer (some ⟨b, off + i * 5, none⟩) := hk2 23 _ (hwt 23 (by kernel_rfl)) rfl
          replace hI := Lib.hid hI
          replace hk2 := Lib.hid hk2
          clear hwt
          refine wpOp_step rfl (fun K hK => ?_)
          go_simp
          exact hK _ _ ⟨_, by simp [updT, e14, e23], hk2.out.at_ rfl, hI.out⟩
        · -- operation 25
          have e14 : t 14 = .bool true := hk2 14 _ (hwt 14 (by kernel_rfl)) rfl
          have e24 : t 24 = x.val (.slice a5 x.attrs.length c5) (.slice a6 x.kids.length c6) := hk2 24 _ (hwt 24 (by kernel_rfl)) rfl
          have hC := Lib.hid (hO.out W hI)
          replace hk2 := Lib.hid hk2
          replace hI := Lib.hid hI
          clear hwt
          refine wpOp_step rfl (fun K hK => ?_)
          go_simp
          refine hC.out.mono ?_
          rintro e w5 ⟨rfl, hb5⟩
          exact hK _ _ ⟨_, by simp [updT, e14, e24], hk2.out.at_ rfl, hI.out.trans (hb5.mono hI.out.size)⟩
        · -- operation 26
          have e14 : t 14 = .bool true := hk2 14 _ (hwt 14 (by kernel_rfl)) rfl
          replace hI := Lib.hid hI
          replace hk2 := Lib.hid hk2
          clear hwt
          refine wpOp_step rfl (fun K hK => ?_)
          go_simp
          exact hK _ _ ⟨_, by simp [updT, e14], hk2.out.at_ rfl, hI.out⟩
        · -- operation 27
          have e14 : t 14 = .bool true := hk2 14 _ (hwt 14 (by kernel_rfl)) rfl
          replace hI := Lib.hid hI
          replace hk2 := Lib.hid hk2
          clear hwt
          refine wpOp_step rfl (fun K hK => ?_)
          go_simp
          exact hK _ _ ⟨_, by simp [updT, e14], hk2.out.at_ rfl, hI.out⟩
        · -- operation 28
          have e14 : t 14 = .bool true := hk2 14 _ (hwt 14 (by kernel_rfl)) rfl
          have e26 : t 26 = Value.slice (some ⟨b, off, none⟩) A.length c1 := hk2 26 _ (hwt 26 (by kernel_rfl)) rfl
          have e27 : t 27 = Value.int IntKind.i64 (i : Int) := hk2 27 _ (hwt 27 (by kernel_rfl)) rfl
          replace hI := Lib.hid hI
          replace hk2 := Lib.hid hk2
          clear hwt
          refine wpOp_step rfl (fun K hK => ?_)
          go_simp
          exact hK _ _ ⟨_, by simp [updT, e14, e26, e27], hk2.out.at_ rfl, hI.out⟩
        · -- operation 29
          have e14 : t 14 = .bool true := hk2 14 _ (hwt 14 (by kernel_rfl)) rfl
          have e28 : t 28 = .pointer (some ⟨b, off + i * 5, none⟩) := hk2 28 _ (hwt 28 (by kernel_rfl)) rfl
          replace hI := Lib.hid hI
          replace hk2 := Lib.hid hk2
          clear hwt
          refine wpOp_step rfl (fun K hK => ?_)
          go_simp
          exact hK _ _ ⟨_, by simp [updT, e14, e28], hk2.out.at_ rfl, hI.out⟩
        · -- operation 30
          have e14 : t 14 = .bool true := hk2 14 _ (hwt 14 (by kernel_rfl)) rfl
          have e29 : t 29 = .pointer (some ⟨b, off + i * 5 + 4, none⟩) := hk2 29 _ (hwt 29 (by kernel_rfl)) rfl
          replace hI := Lib.hid hI
          replace hk2 := Lib.hid hk2
          clear hwt
          refine wpOp_step rfl (fun K hK => ?_)
          go_simp
          exact hK _ _ ⟨_, by simp [updT, e14, e29], hk2.out.at_ rfl, hI.out⟩
        · -- operation 31
          have e14 : t 14 = .bool true := hk2 14 _ (hwt 14 (by kernel_rfl)) rfl
          have e30 : t 30 = .slice a6 x.kids.length c6 := hk2 30 _ (hwt 30 (by kernel_rfl)) rfl
          have hC := Lib.hid (hK1.out W hI)
          replace hk2 := Lib.hid hk2
          replace hI := Lib.hid hI
          clear hwt
          refine wpOp_step rfl (fun K hK => ?_)
          go_simp
          refine hC.out.mono ?_
          rintro e w5 ⟨rfl, hb5⟩
          exact hK _ _ ⟨_, by simp [updT, e14, e30], hk2.out.at_ rfl, hI.out.trans (hb5.mono hI.out.size)⟩
        · -- operation 32
          have e14 : t 14 = .bool true := hk2 14 _ (hwt 14 (by kernel_rfl)) rfl
          have e25 : t 25 = .string so := hk2 25 _ (hwt 25 (by kernel_rfl)) rfl
          have e31 : t 31 = .string sk := hk2 31 _ (hwt 31 (by kernel_rfl)) rfl
          replace hI := Lib.hid hI
          replace hk2 := Lib.hid hk2
          clear hwt
          refine wpOp_step rfl (fun K hK => ?_)
          go_simp
          exact hK _ _ ⟨_, by simp [updT, e14, e25, e31], hk2.out.at_ rfl, hI.out⟩
        · -- operation 33
          have e14 : t 14 = .bool true := hk2 14 _ (hwt 14 (by kernel_rfl)) rfl
          replace hI := Lib.hid hI
          replace hk2 := Lib.hid hk2
          clear hwt
          refine wpOp_step rfl (fun K hK => ?_)
          go_simp
          exact hK _ _ ⟨_, by simp [updT, e14], hk2.out.at_ rfl, hI.out⟩
        · -- operation 34
          have e14 : t 14 = .bool true := hk2 14 _ (hwt 14 (by kernel_rfl)) rfl
          replace hI := Lib.hid hI
          replace hk2 := Lib.hid hk2
          clear hwt
          refine wpOp_step rfl (fun K hK => ?_)
          go_simp
          exact hK _ _ ⟨_, by simp [updT, e14], hk2.out.at_ rfl, hI.out⟩
        · -- operation 35
          have e14 : t 14 = .bool true := hk2 14 _ (hwt 14 (by kernel_rfl)) rfl
          have e33 : t 33 = Value.slice (some ⟨b, off, none⟩) A.length c1 := hk2 33 _ (hwt 33 (by kernel_rfl)) rfl
          have e34 : t 34 = Value.int IntKind.i64 (i : Int) := hk2 34 _ (hwt 34 (by kernel_rfl)) rfl
          replace hI := Lib.hid hI
          replace hk2 := Lib.hid hk2
          clear hwt
          refine wpOp_step rfl (fun K hK => ?_)
          go_simp
          exact hK _ _ ⟨_, by simp [updT, e14, e33, e34], hk2.out.at_ rfl, hI.out⟩
        · -- operation 36
          have e14 : t 14 = .bool true := hk2 14 _ (hwt 14 (by kernel_rfl)) rfl
          have e35 : t 35 = .pointer (some ⟨b, off + i * 5, none⟩) := hk2 35 _ (hwt 35 (by kernel_rfl)) rfl
          replace hI := Lib.hid hI
          replace hk2 := Lib.hid hk2
          clear hwt
          refine wpOp_step rfl (fun K hK => ?_)
          go_simp
          exact hK _ _ ⟨_, by simp [updT, e14, e35], hk2.out.at_ rfl, hI.out⟩
        · -- operation 37
          have e14 : t 14 = .bool true := hk2 14 _ (hwt 14 (by kernel_rfl)) rfl
          have e36 : t 36 = x.val (.slice a5 x.attrs.length c5) (.slice a6 x.kids.length c6) := hk2 36 _ (hwt 36 (by kernel_rfl)) rfl
          have hC := Lib.hid (hC1.out W hI)
          replace hk2 := Lib.hid hk2
          replace hI := Lib.hid hI
          clear hwt
          refine wpOp_step rfl (fun K hK => ?_)
          go_simp
          refine hC.out.mono ?_
          rintro e w5 ⟨rfl, hb5⟩
          exact hK _ _ ⟨_, by simp [updT, e14, e36], hk2.out.at_ rfl, hI.out.trans (hb5.mono hI.out.size)⟩
        · -- operation 38
          have e14 : t 14 = .bool true := hk2 14 _ (hwt 14 (by kernel_rfl)) rfl
          have e32 : t 32 = .string (so ++ sk) := hk2 32 _ (hwt 32 (by kernel_rfl)) rfl
          have e37 : t 37 = .string se := hk2 37 _ (hwt 37 (by kernel_rfl)) rfl
          replace hI := Lib.hid hI
          replace hk2 := Lib.hid hk2
          clear hwt
          refine wpOp_step rfl (fun K hK => ?_)
          go_simp
          exact hK _ _ ⟨_, by simp [updT, e14, e32, e37], hk2.out.at_ rfl, hI.out⟩
        · -- operation 39
          have e14 : t 14 = .bool true := hk2 14 _ (hwt 14 (by kernel_rfl)) rfl
          have e20 : t 20 = .string (so ++ sk ++ se) := hk2 20 _ (hwt 20 (by kernel_rfl)) rfl
          have e38 : t 38 = .string (so ++ sk ++ se) := hk2 38 _ (hwt 38 (by kernel_rfl)) rfl
          replace hI := Lib.hid hI
          replace hk2 := Lib.hid hk2
          clear hwt
          refine wpOp_step rfl (fun K hK => ?_)
          go_simp
          exact hK _ _ ⟨_, by simp [updT, e14, e20, e38], hk2.out.at_ rfl, hI.out⟩
        · -- operation 40
          have e14 : t 14 = .bool true := hk2 14 _ (hwt 14 (by kernel_rfl)) rfl
          have e39 : t 39 = .bool false := hk2 39 _ (hwt 39 (by kernel_rfl)) rfl
          replace hI := Lib.hid hI
          replace hk2 := Lib.hid hk2
          clear hwt
          refine wpOp_step rfl (fun K hK => ?_)
          go_simp
          exact hK _ _ ⟨_, by simp [updT, e14, e39], hk2.out.at_ rfl, hI.out⟩
      case fin =>
        intro f t W hall hk2 hI
        have e40 := hk2 40 _ (hall 40 (by omega)) rfl
        clear hk2 hall
        dsimp only
        rw [e40]
        replace hI := Lib.hid hI
        clear hT1 hO hK1 hC1
        go_wp2_with fail
        go_roundw
        case rel => exact ⟨i + 1, by omega, by go_num, hb.trans (hI.out.mono hz)⟩
        case measure => exact wr_meas hlt
    · obtain rfl : i = A.length := by omega
      go_wp2_with fail
      refine (lives04 _).mono ?_
      rintro e w11 ⟨rfl, hb11⟩
      have hbb := bt (bt hb04 hb) hb11
      go_wp2_with fail
      go_ret
      exact ⟨rfl, hbb⟩
end Go.Proofs.Ytjelmpajphajfaa

/- The statements of layer 4: elements alone. -/
namespace Go.Proofs.Ytjelmpajphajfaa
open Go.RowKit

/-- An element without its kids. -/
def bareN (x : Nd) : Nd := .mk x.kind x.name x.attrs x.text []
def elemsN : List Nd → List Nd
  | [] => []
  | x :: r => if x.kind = 1 then bareN x :: elemsN r else elemsN r
theorem elemsN_snoc (l : List Nd) (x : Nd) : elemsN (l ++ [x]) = elemsN l ++ if x.kind = 1 then [bareN x] else [] := by
  induction l with
  | nil => simp only [List.nil_append, elemsN]
  | cons y r ih =>
    rw [List.cons_append, elemsN, elemsN, ih]
    split <;> simp
theorem elemsN_take (l : List Nd) (i : Nat) (h : i < l.length) : elemsN (l.take (i + 1)) = elemsN (l.take i) ++ if l[i].kind = 1 then [bareN l[i]] else [] := by
  rw [List.take_succ_eq_append_getElem h, elemsN_snoc]
theorem elemsN_len (l : List Nd) : (elemsN l).length ≤ l.length := by
  induction l with
  | nil => exact Nat.le_refl _
  | cons x r ih => rw [elemsN]; split <;> simp <;> omega
theorem elemsN_weight (l : List Nd) : M3.weight (elemsN l) ≤ M3.weight l := by
  induction l with
  | nil => exact Nat.le_refl _
  | cons x r ih =>
    rw [elemsN, M3.weight_cons]
    split
    · rw [M3.weight_cons]
      show 1 + x.attrs.length + M3.weight [] + _ ≤ _
      rw [M3.weight_nil]; omega
    · omega
theorem elemsN_fit (l : List Nd) (h : FitN l) : FitN (elemsN l) := by
  induction l with
  | nil => exact h
  | cons x r ih =>
    obtain ⟨h1, h2, h3⟩ := fitN_cons.1 h
    rw [elemsN]
    split
    · refine fitN_cons.2 ⟨⟨h1.1, h1.2.1, h1.2.2.1, ?_⟩, fitN_nil, ih h3⟩
      show 1 + x.attrs.length + M3.weight [] ≤ _
      have := h1.2.2.2
      rw [M3.weight_nil]; omega
    · exact ih h3
theorem elemsN_plain (l : List Nd) : M4.plainT (elemsN l) = [] := by
  induction l with
  | nil => exact M4.plainT_nil
  | cons x r ih =>
    rw [elemsN]
    split
    · rename_i h
      rw [M4.plainT_cons, ih]
      unfold M4.plain1
      rw [if_neg (show ¬ (bareN x).kind = 2 from by show ¬ x.kind = 2; omega)]
      show [] ++ M4.plainT [] ++ [] = []
      rw [M4.plainT_nil]; rfl
    · exact ih
theorem bareN_text {x : Nd} (h : x.kind = 1) : M4.oneB false (bareN x) = M4.openB (bareN x) ++ M4.closeB (bareN x) := by
  have hb : (bareN x).kind = 1 := h
  rw [M4.oneB_1 hb]
  unfold M4.openB M4.closeB
  rw [if_pos hb, if_pos hb]
  show _ ++ (M4.innerB _ _ [] ++ _) = _
  cases M3.voidB (bareN x).name.data.toList
  · rw [M4.innerB_no, M4.textB_nil]; rfl
  · rw [M4.innerB_yes]; rfl

set_option maxHeartbeats 8000000 in
set_option maxRecDepth 100000 in
theorem law04WriteNames (l : List Nd) (S : Nat → Prop) (v : Value) (w : World) (hS : ∀ b, S b → b < w.heap.size) (hr : RepN S w v l) (hsz : SzN l) :
    Calls Try.prog 11 #[v] w fun e w' => e = .returned (.bool true) ∧ Below w.heap.size w w' := by
  have hG := Lib.hid (ref03Good S v l w hS hr hsz)
  have hgf := gd_fit l
  have hgw := gd_weight l
  obtain ⟨a, cap, rfl⟩ := hr.slice
  generalize gdN l = L at *
  have hLl := M3.length_le_weight L
  have hew := elemsN_weight L
  have hef := Lib.hid (elemsN_fit L hgf)
  have htl := textB_len _ (elemsN_fit L hgf) false
  replace hgf := Lib.hid hgf
  go_enter Try.func11, Try.ntmps11
  go_wp2_with fail
  refine hG.out.mono ?_
  rintro e w1 ⟨v1, rfl, hf1, hb1⟩
  have hr1 := hf1.rep
  obtain ⟨a1, c1, rfl⟩ := hr1.slice
  obtain ⟨_, hlc, hcm⟩ := hr1.len
  replace hr1 := Lib.hid hr1
  clear hf1 hG
  go_wp2_with fail
  go_loopw [4, 5, 6, 7] (fun u4 u5 u6 _ wr => ∃ (i : Nat) (o : ByteArray) (zs : List Value), i ≤ L.length ∧ u6 = .int .i64 (i : Int) ∧ u5 = .string o ∧ Hid (o.data.toList = M4.textB false (elemsN (L.take i))) ∧
      wr.ownsRow w1.heap.size 28 5 u4 (elemsN (L.take i)).length zs ∧ RepC (fun b => w.heap.size ≤ b ∧ b < w1.heap.size) wr zs (elemsN (L.take i)) ∧ Below w1.heap.size w1 wr) (fun _ _ u6 _ _ => L.length - (intOf u6).toNat)
  case atStart => exact ⟨0, ⟨#[]⟩, [], by omega, rfl, rfl, (by show _ = _; rw [List.take_zero, elemsN, M4.textB_nil]), World.ownsRow_nil _ _ _ _, (by rw [List.take_zero, elemsN]; exact RepC.nil _ _), Below.refl _ _⟩
  case round =>
    obtain ⟨i, o, zs, hi, rfl, rfl, ho, hown, hrep, hb⟩ := hrel
    have hz := hb.size
    have hz1 := hb1.size
    by_cases hlt : i < L.length
    · have hS1 : ∀ b, w.heap.size ≤ b ∧ b < w1.heap.size → b < w1.heap.size := fun b h => h.2
      obtain ⟨b, off, va, vk, rfl, hSb, p0, p1, p2, p3, p4, hrv⟩ := hr1.out.look hS1 hb i hlt
      have hfx := fitN_mem hgf.out (List.getElem_mem hlt)
      have hbl := hSb.2
      have hwl := weight_le (List.getElem_mem hlt)
      have htk := elemsN_take L i hlt
      generalize L[i] = x at *
      obtain ⟨a3, e3, rfl⟩ := hrv.at_.slice
      obtain ⟨a4, e4, rfl⟩ := hrv.kids.slice
      have hI0 : (i : Int) < (L.length : Int) := by omega
      have hI1 : (0 : Int) ≤ (i : Int) := by omega
      by_cases k1 : x.kind = 1
      · rw [if_pos k1] at htk
        have k1b : (x.kind != 1) = false := by simpa using k1
        have bo := (Below.refl _ wr).alloc (Nat.le_refl _) (.cells ((bareN x).cells (.slice a3 x.attrs.length e3) (.slice none 0 0)).toArray 28)
        have bx := Box.new wr 28 ((bareN x).cells (.slice a3 x.attrs.length e3) (.slice none 0 0))
        have hownZ := Lib.hid (own_below hown bo)
        have hsZ := Lib.hid (show (wr.alloc (.cells ((bareN x).cells (.slice a3 x.attrs.length e3) (.slice none 0 0)).toArray 28)).heap.size = wr.heap.size + 1 by simp)
        have hel := elemsN_len (L.take i)
        have hel2 := List.length_take_le i L
        replace htk := Lib.hid htk
        replace k1 := Lib.hid k1
        replace hrep := Lib.hid hrep
        have hownW := hown
        clear hown
        generalize hE : elemsN (L.take i) = E at *
        replace hE := Lib.hid hE
        go_wp2_with (at_builtin; refine wpList_appK _ [.int .i64 x.kind, .string x.name, .slice a3 x.attrs.length e3, .string x.text, .slice none 0 0] 5 rfl _ _ 22 28 rfl w1.heap.size Try.underlying22 infoN rfl (by omega) _ E.length zs rfl hownZ.out (wr.heap.size + 1) hsZ.out (by rfl) rfl (five_one _ _ _ _ _ _ _ _ _) (by omega) (by omega) (by simp; omega) ?_; intro g cp w5 hown5 hgrow5 hat5)
        have bx5 := bx.keep (hgrow5.block _ (by simp) (fun e => by have := (hownZ.out.lt _ e.symm).2; have h2 := (hownW.lt _ e.symm).2; omega))
        have d0 : w5.cell? ⟨wr.heap.size, 0, none⟩ = some (.int .i64 x.kind) := bx5.cell (i := 0) rfl
        have d1 : w5.cell? ⟨wr.heap.size, 1, none⟩ = some (.string x.name) := bx5.cell (i := 1) rfl
        have d2 : w5.cell? ⟨wr.heap.size, 2, none⟩ = some (.slice a3 x.attrs.length e3) := bx5.cell (i := 2) rfl
        have d3 : w5.cell? ⟨wr.heap.size, 3, none⟩ = some (.string x.text) := bx5.cell (i := 3) rfl
        have d4 : w5.cell? ⟨wr.heap.size, 4, none⟩ = some (.slice none 0 0) := bx5.cell (i := 4) rfl
        have hz5 := hgrow5.size
        simp only [World.size_alloc] at hz5
        have hb5 : Below w1.heap.size w1 w5 := below_own (hb.trans (bo.mono hz)) hownZ.out hgrow5 (by have := hsZ.out; omega) (Nat.le_refl _)
        have hrvB : ∀ W, Below w5.heap.size w5 W → RepV (fun b => w.heap.size ≤ b ∧ b < w1.heap.size) W (bareN x) (.slice a3 x.attrs.length e3) (.slice none 0 0) := fun W hW => ⟨(hrv.at_.keep (w' := W) (fun b h => (hW.block b (by have := h.2; omega)).trans (hb5.block b h.2)) : Row _ _ 2 _ _ _), RepN.nil _ _⟩
        have hSW : ∀ W : World, w5.heap.size ≤ W.heap.size → ∀ b, w.heap.size ≤ b ∧ b < w1.heap.size → b < W.heap.size := fun W hW b h => by have := h.2; omega
        have hfB : Fit1 (bareN x) := ⟨hfx.1.1, hfx.1.2.1, hfx.1.2.2.1, by have := hfx.1.2.2.2; show 1 + x.attrs.length + M3.weight [] ≤ _; rw [M3.weight_nil]; omega⟩
        have hol : (M4.openB (bareN x)).length + (M4.closeB (bareN x)).length ≤ 1030792151040 := by
          have h1 := M4.headB_len x.name x.attrs
          have h2 := M4.attsB_len x.attrs hfx.1.2.2.1
          have h3 := hfx.1.1
          have h4 := M4.endB_len x.name
          have hk1 : (bareN x).kind = 1 := k1.out
          unfold M4.openB M4.closeB
          rw [if_pos hk1, if_pos hk1]
          show (M4.headB x.name x.attrs).length + (M4.endB x.name).length ≤ _
          omega
        have hO := Lib.hid (fun W (hW : Below w5.heap.size w5 W) => (show Calls Try.prog 35 #[.agg #[.int .i64 x.kind, .string x.name, .slice a3 x.attrs.length e3, .string x.text, .slice none 0 0]] W (StrPost ⟨(M4.openB (bareN x)).toArray⟩ W) from writeOpen _ (bareN x) _ _ W (hSW W hW.size) (hrvB W hW) hfB (by omega)))
        have hC1 := Lib.hid (fun W (hW : Below w5.heap.size w5 W) => (show Calls Try.prog 37 #[.agg #[.int .i64 x.kind, .string x.name, .slice a3 x.attrs.length e3, .string x.text, .slice none 0 0]] W (StrPost ⟨(M4.closeB (bareN x)).toArray⟩ W) from writeClose (bareN x) _ _ W ⟨_, _, _, rfl⟩ ⟨_, _, _, rfl⟩ (by omega)))
        have hos : o.size ≤ 1030792151040 := by
          show o.data.toList.length ≤ _
          rw [ho.out]
          have h1 := textB_len E (hE.out ▸ elemsN_fit _ (fitN_take hgf.out i)) false
          have h2 : M3.weight E ≤ 240 := by
            have h3 : M3.weight L = M3.weight (L.take i) + M3.weight (L.drop i) := by rw [← M3.weight_append, List.take_append_drop]
            have h4 := elemsN_weight (L.take i)
            rw [hE.out] at h4
            omega
          omega
        have fin : Hid ((o ++ ⟨(M4.openB (bareN x)).toArray⟩ ++ ⟨(M4.closeB (bareN x)).toArray⟩ : ByteArray).data.toList = M4.textB false (E ++ [bareN x])) := by
          show _ = _
          rw [M4.textB_snoc, bareN_text k1.out]
          simp [ho.out]
        have hss : (⟨(M4.openB (bareN x)).toArray⟩ : ByteArray).size + (⟨(M4.closeB (bareN x)).toArray⟩ : ByteArray).size ≤ 1030792151040 := hol
        have h34 : ¬ (9223372036854775807 < o.size + (⟨(M4.openB (bareN x)).toArray⟩ : ByteArray).size) := by omega
        have h37 : ¬ (9223372036854775807 < o.size + (⟨(M4.openB (bareN x)).toArray⟩ : ByteArray).size + (⟨(M4.closeB (bareN x)).toArray⟩ : ByteArray).size) := by omega
        have hrep5 := Lib.hid (fun W (hW : Below w5.heap.size w5 W) => (RepC.append (RepC.single (hrvB W hW)) E zs (RepC.keep (fun b h => (hW.block b (by have := h.2; omega)).trans ((hb5.block b h.2).trans (hb.block b h.2).symm)) _ _ hrep.out) : RepC _ W _ _))
        replace hown5 := Lib.hid hown5
        replace hrvB := Lib.hid hrvB
        clear hol hSW bx5
        generalize (⟨(M4.openB (bareN x)).toArray⟩ : ByteArray) = so at *
        generalize (⟨(M4.closeB (bareN x)).toArray⟩ : ByteArray) = se at *
        refine wp_region_known (n := 8) ([some (.string o), some (.agg #[.int .i64 x.kind, .string x.name, .slice a3 x.attrs.length e3, .string x.text, .slice none 0 0]), some (.string so), some (.string (o ++ so)), some (.agg #[.int .i64 x.kind, .string x.name, .slice a3 x.attrs.length e3, .string x.text, .slice none 0 0]), some (.string se), some (.string (o ++ so ++ se)), some (.string (o ++ so ++ se))] : List (Option Value)) (fun t => ⟨#[Value.slice a l.length cap, undef, Value.bool false, Value.slice (some ⟨b, off, none⟩) L.length c1, Value.slice (some ⟨g, 0, none⟩) (E.length + 1) cp, t 7, Value.int IntKind.i64 (i : Int), Value.pointer (some ⟨wr.heap.size, 0, none⟩), Value.slice a l.length cap, Value.slice (some ⟨b, off, none⟩) L.length c1, Value.int IntKind.i64 (i : Int), Value.slice (some ⟨b, off, none⟩) L.length c1, Value.int IntKind.i64 (L.length : Int), Value.bool true, u14, u15, Value.slice (some ⟨b, off, none⟩) L.length c1, Value.int IntKind.i64 (i : Int), Value.pointer (some ⟨b, off + i * 5, none⟩), Value.pointer (some ⟨b, off + i * 5, none⟩), Value.int IntKind.i64 x.kind, Value.bool false, Value.slice (some ⟨b, off, none⟩) L.length c1, Value.int IntKind.i64 (i : Int), Value.pointer (some ⟨b, off + i * 5, none⟩), Value.agg #[Value.int IntKind.i64 x.kind, Value.string x.name, Value.slice a3 x.attrs.length e3, Value.string x.text, Value.slice a4 x.kids.length e4], Value.pointer (some ⟨wr.heap.size, 4, none⟩), u4, Value.agg #[Value.int IntKind.i64 x.kind, Value.string x.name, Value.slice a3 x.attrs.length e3, Value.string x.text, Value.slice none 0 0], Value.slice (some ⟨wr.heap.size + 1, 0, none⟩) 1 1, Value.slice (some ⟨g, 0, none⟩) (E.length + 1) cp, t 0, t 1, t 2, t 3, t 4, t 5, t 6, undef, undef, undef, undef, undef, undef, undef, undef, undef, undef, undef, undef, undef, undef, undef, undef], []⟩) (fun f t W => Below w5.heap.size w5 W ∧ (f 7 = false → t 7 = .string o) ∧ (f 7 = true → f 0 = true)) (fun j => match j with | 0 => u31 | 1 => u32 | 2 => u33 | 3 => u34 | 4 => u35 | 5 => u36 | 6 => u37 | 7 => Value.string o | _ => undef) (by kernel_rfl) (by rfl) (by rfl) (by kernel_rfl) rfl ?i0 ?step ?fin
        case i0 =>
          exact ⟨(Below.refl _ w5).drew, fun _ => rfl, fun h => by simp at h⟩
        case step =>
          intro j0 hj0 f t W hfi hwt hk2 hI
          obtain ⟨hB, hI7, hI0'⟩ := hI
          have s0 := cell_of_below hB d0 (by omega)
          have s1 := cell_of_below hB d1 (by omega)
          have s2 := cell_of_below hB d2 (by omega)
          have s3 := cell_of_below hB d3 (by omega)
          have s4 := cell_of_below hB d4 (by omega)
          obtain rfl | rfl | rfl | rfl | rfl | rfl | rfl | rfl : j0 = 0 ∨ j0 = 1 ∨ j0 = 2 ∨ j0 = 3 ∨ j0 = 4 ∨ j0 = 5 ∨ j0 = 6 ∨ j0 = 7 := by omega
          · -- operation 0
            have f7 : f 7 = false := by
              cases hf : f 7
              · rfl
              · rw [hI0' hf] at hfi; cases hfi
            have e7 := hI7 f7
            replace hk2 := Lib.hid hk2
            replace hI7 := Lib.hid hI7
            replace hI0' := Lib.hid hI0'
            replace hB := Lib.hid hB
            clear hwt
            refine wpOp_step rfl (fun K hK => ?_)
            go_simp
            exact hK _ _ ⟨_, by simp [updT, e7], hk2.out.at_ rfl, ⟨hB.out, by simpa [updF, updT] using hI7.out, by simp [updF]⟩⟩
          · -- operation 1
            replace hk2 := Lib.hid hk2
            replace hI7 := Lib.hid hI7
            replace hI0' := Lib.hid hI0'
            replace hB := Lib.hid hB
            clear hwt
            refine wpOp_step rfl (fun K hK => ?_)
            go_simp
            exact hK _ _ ⟨_, by simp [updT, ], hk2.out.at_ rfl, ⟨hB.out, by simpa [updF, updT] using hI7.out, by simpa [updF, updT] using hI0'.out⟩⟩
          · -- operation 2
            have e1 : t 1 = .agg #[.int .i64 x.kind, .string x.name, .slice a3 x.attrs.length e3, .string x.text, .slice none 0 0] := hk2 1 _ (hwt 1 (by kernel_rfl)) rfl
            have hC := Lib.hid (hO.out W hB)
            replace hk2 := Lib.hid hk2
            replace hI7 := Lib.hid hI7
            replace hI0' := Lib.hid hI0'
            replace hB := Lib.hid hB
            clear hwt
            refine wpOp_step rfl (fun K hK => ?_)
            go_simp
            refine hC.out.mono ?_
            rintro e w6 ⟨rfl, hb6⟩
            exact hK _ _ ⟨_, by simp [updT, e1], hk2.out.at_ rfl, ⟨hB.out.trans (hb6.mono hB.out.size), by simpa [updF, updT] using hI7.out, by simpa [updF, updT] using hI0'.out⟩⟩
          · -- operation 3
            have e0 : t 0 = .string o := hk2 0 _ (hwt 0 (by kernel_rfl)) rfl
            have e2 : t 2 = .string so := hk2 2 _ (hwt 2 (by kernel_rfl)) rfl
            replace hk2 := Lib.hid hk2
            replace hI7 := Lib.hid hI7
            replace hI0' := Lib.hid hI0'
            replace hB := Lib.hid hB
            clear hwt
            refine wpOp_step rfl (fun K hK => ?_)
            go_simp
            exact hK _ _ ⟨_, by simp [updT, e0, e2], hk2.out.at_ rfl, ⟨hB.out, by simpa [updF, updT] using hI7.out, by simpa [updF, updT] using hI0'.out⟩⟩
          · -- operation 4
            replace hk2 := Lib.hid hk2
            replace hI7 := Lib.hid hI7
            replace hI0' := Lib.hid hI0'
            replace hB := Lib.hid hB
            clear hwt
            refine wpOp_step rfl (fun K hK => ?_)
            go_simp
            exact hK _ _ ⟨_, by simp [updT, ], hk2.out.at_ rfl, ⟨hB.out, by simpa [updF, updT] using hI7.out, by simpa [updF, updT] using hI0'.out⟩⟩
          · -- operation 5
            have e4 : t 4 = .agg #[.int .i64 x.kind, .string x.name, .slice a3 x.attrs.length e3, .string x.text, .slice none 0 0] := hk2 4 _ (hwt 4 (by kernel_rfl)) rfl
            have hC := Lib.hid (hC1.out W hB)
            replace hk2 := Lib.hid hk2
            replace hI7 := Lib.hid hI7
            replace hI0' := Lib.hid hI0'
            replace hB := Lib.hid hB
            clear hwt
            refine wpOp_step rfl (fun K hK => ?_)
            go_simp
            refine hC.out.mono ?_
            rintro e w6 ⟨rfl, hb6⟩
            exact hK _ _ ⟨_, by simp [updT, e4], hk2.out.at_ rfl, ⟨hB.out.trans (hb6.mono hB.out.size), by simpa [updF, updT] using hI7.out, by simpa [updF, updT] using hI0'.out⟩⟩
          · -- operation 6
            have e3 : t 3 = .string (o ++ so) := hk2 3 _ (hwt 3 (by kernel_rfl)) rfl
            have e5 : t 5 = .string se := hk2 5 _ (hwt 5 (by kernel_rfl)) rfl
            replace hk2 := Lib.hid hk2
            replace hI7 := Lib.hid hI7
            replace hI0' := Lib.hid hI0'
            replace hB := Lib.hid hB
            clear hwt
            refine wpOp_step rfl (fun K hK => ?_)
            go_simp
            exact hK _ _ ⟨_, by simp [updT, e3, e5], hk2.out.at_ rfl, ⟨hB.out, by simpa [updF, updT] using hI7.out, by simpa [updF, updT] using hI0'.out⟩⟩
          · -- operation 7
            have e6 : t 6 = .string (o ++ so ++ se) := hk2 6 _ (hwt 6 (by kernel_rfl)) rfl
            have f0 := hwt 0 (by kernel_rfl)
            replace hk2 := Lib.hid hk2
            replace hI7 := Lib.hid hI7
            replace hI0' := Lib.hid hI0'
            replace hB := Lib.hid hB
            clear hwt
            refine wpOp_step rfl (fun K hK => ?_)
            go_simp
            exact hK _ _ ⟨_, by simp [updT, e6], hk2.out.at_ rfl, ⟨hB.out, by simp [updF], by simpa [updF] using f0⟩⟩
        case fin =>
          intro f t W hall hk2 hI
          have e6 := hk2 7 _ (hall 7 (by omega)) rfl
          have hB := Lib.hid hI.1
          clear hk2 hall hI
          dsimp only
          rw [e6]
          clear hO hC1
          have hownF := Lib.hid (own_below hown5.out hB.out)
          have hrepF := Lib.hid (hrep5.out W hB.out)
          have hbF : Below w1.heap.size w1 W := hb5.trans (hB.out.mono (by omega))
          clear hown5 hrep5
          go_wp2_with fail
          go_roundw
          case rel => exact ⟨i + 1, o ++ so ++ se, _, by omega, by go_num, rfl, by rw [htk.out]; exact fin, by rw [htk.out, List.length_append]; exact hownF.out, by rw [htk.out]; exact hrepF.out, hbF⟩
          case measure => exact wr_meas hlt
      · rw [if_neg k1, List.append_nil] at htk
        have k1b : (x.kind != 1) = true := by simpa using k1
        rw [← htk] at ho hown hrep
        replace htk := Lib.hid htk
        replace k1 := Lib.hid k1
        replace hown := Lib.hid hown
        replace hrep := Lib.hid hrep
        go_wp2_with fail
        go_roundw
        case rel => exact ⟨i + 1, o, zs, by omega, by go_num, rfl, ho, hown.out, hrep.out, hb⟩
        case measure => exact wr_meas hlt
    · obtain rfl : i = L.length := by omega
      rw [List.take_length] at ho hown hrep
      obtain ⟨a5, c5, rfl⟩ := own_slice hown
      have hS1 : ∀ W : World, w1.heap.size ≤ W.heap.size → ∀ b, w.heap.size ≤ b ∧ b < w1.heap.size → b < W.heap.size := fun W hW b h => Nat.lt_of_lt_of_le h.2 hW
      have hrE : RepN (fun b => b < wr.heap.size) wr (.slice a5 (elemsN L).length c5) (elemsN L) := ⟨zs, Row.own hown (fun g hg => (hown.lt g hg).2), RepC.mono (fun b h => Nat.lt_of_lt_of_le h.2 hz) _ _ hrep⟩
      have hT := Lib.hid (show Calls Try.prog 30 #[.slice a5 (elemsN L).length c5] wr (StrPost o wr) from by
        have := writeTextOf _ _ (elemsN L) wr (fun b h => h) hrE hef.out (by omega)
        rw [str_two _ o ho.out]
        exact this)
      have hP := Lib.hid (fun W (hW : Below wr.heap.size wr W) => (show Calls Try.prog 38 #[.slice a5 (elemsN L).length c5] W (StrPost ⟨#[]⟩ W) from by
        have := writePlain _ _ (elemsN L) W (fun b h => Nat.lt_of_lt_of_le h hW.size) (hrE.keep (fun b h => hW.block b h)) hef.out (by rw [elemsN_plain, List.length_nil]; omega)
        rw [elemsN_plain] at this
        exact this))
      have hN := Lib.hid (fun W => (show Calls Try.prog 30 #[.slice none 0 0] W (StrPost ⟨#[]⟩ W) from by
        have := writeTextOf (fun _ => False) _ [] W (fun b h => h.elim) (RepN.nil _ W) fitN_nil (by rw [M4.textB_nil, List.length_nil]; omega)
        rw [M4.textB_nil] at this
        exact this))
      replace hown := Lib.hid hown
      replace hrep := Lib.hid hrep
      go_wp2_with fail
      refine hT.out.mono ?_
      rintro e w2 ⟨rfl, hb2⟩
      go_wp2_with fail
      refine (hP.out _ hb2).mono ?_
      rintro e w3 ⟨rfl, hb3⟩
      go_wp2_with fail
      refine (hN.out _).mono ?_
      rintro e w4 ⟨rfl, hb4⟩
      go_wp2_with fail
      refine (lives04 _).mono ?_
      rintro e w5 ⟨rfl, hb5⟩
      have hbb := bt (bt (bt (bt (bt hb1 hb) hb2) hb3) hb4) hb5
      go_wp2_with fail
      go_ret
      exact ⟨rfl, hbb⟩
end Go.Proofs.Ytjelmpajphajfaa
