/- Texts joined: Ref03h, Good, Math6b, Math7, Math7b, Mod1, Bld1. -/
import Derived.Outline
import Derived.Deep.CutRange
import Derived.Maps.OwnSet
import Derived.Maps.AppendAt
import Derived.Shelf.RegionOpenPlain
import Derived.Deep.RegionHeld3
import Derived.Deep.AppendLies
import Derived.RegionTactic
import Derived.BigRegion
import Derived.Test.YteefodibpjgicaaGreatK1
import Derived.Test.YteefodibpjgicaaGreatK2
import Derived.Test.YteefodibpjgicaaGreatK3
import Derived.Test.YteefodibpjgicaaGreatK4
import Derived.Test.YteefodibpjgicaaGreatK5
/- The reference of layer 3: nodes that may be, made of any. -/
namespace Go.Proofs.YteefodibpjgicaaGreat
open Go.RowKit
/-- All texts are short. -/
def Sm1 (x : Nd) : Prop := x.name.size ≤ 30 ∧ x.text.size ≤ 30 ∧ ∀ a ∈ x.attrs, a.name.size ≤ 30 ∧ a.value.size ≤ 30

def Sm30 : List Nd → Prop
  | [] => True
  | .mk k n a t ks :: r => Sm1 (.mk k n a t ks) ∧ Sm30 ks ∧ Sm30 r
termination_by l => SizeOf.sizeOf l

theorem sm_nil : Sm30 [] := by rw [Sm30]; trivial

theorem sm_cons {x : Nd} {r : List Nd} : Sm30 (x :: r) ↔ Sm1 x ∧ Sm30 x.kids ∧ Sm30 r := by cases x; rw [Sm30]; rfl

theorem sm_iff {l : List Nd} : Sm30 l ↔ ∀ x ∈ l, Sm1 x ∧ Sm30 x.kids := by
  induction l with
  | nil => simp [sm_nil]
  | cons x r ih => rw [sm_cons, ih]; simp; exact ⟨fun h => ⟨⟨h.1, h.2.1⟩, h.2.2⟩, fun h => ⟨h.1.1, h.1.2, h.2⟩⟩

theorem cut_sm (l : List Nd) : ∀ m, Sm30 (M3.cut l m).1 := by
  induction l using Nd.ind with
  | h0 => intro m; rw [M3.cut_nil]; exact sm_nil
  | h1 k n ats t ks r ih1 ih2 =>
    intro m
    cases m with
    | zero => rw [M3.cut_zero]; exact sm_nil
    | succ m =>
      rw [M3.cut_cons]
      refine sm_cons.2 ⟨⟨few_size _, few_size _, fun a ha => ?_⟩, ih1 _, ih2 _⟩
      obtain ⟨b, _, rfl⟩ := List.mem_map.1 ha
      exact ⟨few_size _, few_size _⟩

theorem few_sm (l : List Nd) : Sm30 (fewN l) := cut_sm l 40

theorem good_len (l : List Nd) : (M3.goodN l).length = l.length := by rw [M3.goodN_map, List.length_map]

theorem good_weight (l : List Nd) : M3.weight (M3.goodN l) ≤ M3.weight l := by
  induction l using Nd.ind with
  | h0 => rw [M3.goodN_nil]; exact Nat.le_refl _
  | h1 k n ats t ks r ih1 ih2 =>
    rw [M3.goodN_cons, M3.weight_cons, M3.weight_cons, M3.good1_mk]
    have h1 := M3.goodA_len ats
    have h2 := weight_merge (M3.goodN ks)
    show _ ≤ 1 + ats.length + M3.weight ks + M3.weight r
    split
    · show 1 + (M3.goodA ats).length + M3.weight (M3.merge (M3.goodN ks)) + _ ≤ _; omega
    · show 1 + 0 + M3.weight [] + _ ≤ _; rw [M3.weight_nil]; omega

theorem good_texts (l : List Nd) (h : Sm30 l) : ∀ x ∈ M3.goodN l, x.text.size ≤ 120 := by
  intro x hx
  rw [M3.goodN_map] at hx
  obtain ⟨y, hy, rfl⟩ := List.mem_map.1 hx
  have := (sm_iff.1 h y hy).1.2.1
  unfold M3.good1
  split
  · show (⟨#[]⟩ : ByteArray).size ≤ _; decide
  · show (M3.rightN y.text).size ≤ _; have := M3.rightN_size y.text; omega

theorem good_txt (l : List Nd) (h : Sm30 l) : txtN (M3.goodN l) ≤ l.length * 120 := by
  have := txtN_fit _ 120 (good_texts l h)
  rwa [good_len] at this

/-- A new attribute of two calls' answers, in whatever order. -/
def AttI (wr : World) (av a1 a2 : ByteArray) (f : Nat → Bool) (t : Nat → Value) (W : World) : Prop :=
  Below wr.heap.size wr W ∧ (f 19 = true → f 23 = false → Sl W (t 19) (u8s av.data.toList)) ∧ (f 23 = true → f 22 = true ∧ f 20 = true) ∧
    (f 22 = true → ∃ ga, t 22 = .pointer (some ⟨ga, 0, none⟩) ∧ wr.heap.size ≤ ga ∧ Box W ga 43 (bif f 23 then [.string a1, .string a2] else [.string ⟨#[]⟩, .string ⟨#[]⟩]))

theorem AttI.start (wr : World) (av a1 a2 : ByteArray) (t : Nat → Value) {f : Nat → Bool} (h1 : f 19 = false) (h2 : f 22 = false) (h3 : f 23 = false) : AttI wr av a1 a2 f t wr.drew :=
  ⟨(Below.refl _ _).drew, (fun h => by rw [h1] at h; cases h), (fun h => by rw [h3] at h; cases h), (fun h => by rw [h2] at h; cases h)⟩

theorem AttI.next {wr W W' : World} {av a1 a2 : ByteArray} {f : Nat → Bool} {t : Nat → Value} (h : AttI wr av a1 a2 f t W) (hb : Below W.heap.size W W') : AttI wr av a1 a2 f t W' := by
  obtain ⟨h1, h2, h3, h4⟩ := h
  refine ⟨h1.trans (hb.mono h1.size), fun hf hg => (h2 hf hg).below hb, h3, fun hf => ?_⟩
  obtain ⟨ga, e, hg, hbx⟩ := h4 hf
  exact ⟨ga, e, hg, hbx.below hb hbx.lt⟩

theorem AttI.conv {wr W : World} {av a1 a2 : ByteArray} {f : Nat → Bool} {t : Nat → Value} {x : Value} (h : AttI wr av a1 a2 f t W) (hs : Sl W x (u8s av.data.toList)) : AttI wr av a1 a2 (updF f 19) (updT t 19 x) W :=
  ⟨h.1, fun _ _ => by rw [updT_same]; exact hs, h.2.2.1, h.2.2.2⟩

theorem AttI.right {wr W : World} {av a1 a2 : ByteArray} {f : Nat → Bool} {t : Nat → Value} {x : Value} (h : AttI wr av a1 a2 f t W) : AttI wr av a1 a2 (updF f 20) (updT t 20 x) W :=
  ⟨h.1, h.2.1, fun hf => ⟨(h.2.2.1 hf).1, updF_same _ _⟩, h.2.2.2⟩

theorem AttI.made {wr W : World} {av a1 a2 : ByteArray} {f : Nat → Bool} {t : Nat → Value} (h : AttI wr av a1 a2 f t W) (hf : f 22 = false) :
    AttI wr av a1 a2 (updF f 22) (updT t 22 (.pointer (some ⟨W.heap.size, 0, none⟩))) (W.alloc (.cells #[.string ⟨#[]⟩, .string ⟨#[]⟩] 43)) := by
  have h23 : f 23 = false := by
    cases h2 : f 23
    · rfl
    · rw [(h.2.2.1 h2).1] at hf; cases hf
  have hb : Below W.heap.size W (W.alloc (.cells #[.string ⟨#[]⟩, .string ⟨#[]⟩] 43)) := (Below.refl _ _).alloc (Nat.le_refl _) _
  have hn := h.next hb
  refine ⟨hn.1, hn.2.1, fun h => ⟨updF_same _ _, (hn.2.2.1 h).2⟩, fun _ => ⟨W.heap.size, rfl, h.1.size, ?_⟩⟩
  rw [updF_ne f (by decide), h23]
  exact Box.new W 43 [.string ⟨#[]⟩, .string ⟨#[]⟩]

theorem AttI.put {wr W : World} {av a1 a2 : ByteArray} {f : Nat → Bool} {t : Nat → Value} {ga : Nat} {v : Value} (h : AttI wr av a1 a2 f t W) (hf : f 22 = true) (hf2 : f 20 = true) (ht : t 22 = .pointer (some ⟨ga, 0, none⟩)) (hg : wr.heap.size ≤ ga) (hbx : Box W ga 43 [.string ⟨#[]⟩, .string ⟨#[]⟩]) :
    AttI wr av a1 a2 (updF f 23) (updT t 23 v) ((W.setCell ⟨ga, 0, none⟩ (.string a1)).setCell ⟨ga, 1, none⟩ (.string a2)) := by
  refine ⟨(h.1.setCell (p := ⟨ga, 0, none⟩) hg _).setCell (p := ⟨ga, 1, none⟩) hg _, (fun _ hf23 => by rw [updF_same] at hf23; cases hf23), fun _ => ⟨by rw [updF_ne f (by decide)]; exact hf, by rw [updF_ne f (by decide)]; exact hf2⟩, fun _ => ⟨ga, by rw [updT_ne t v (by decide)]; exact ht, hg, ?_⟩⟩
  rw [updF_same]
  exact (hbx.set 0 (.string a1)).set 1 (.string a2)

theorem cell_of_below {B : Nat} {w w' : World} (hb : Below B w w') {b o : Nat} {v : Value} (h : w.cell? ⟨b, o, none⟩ = some v) (hlt : b < B) : w'.cell? ⟨b, o, none⟩ = some v := (hb.cell (p := ⟨b, o, none⟩) hlt).trans h

set_option maxHeartbeats 8000000 in
set_option maxRecDepth 100000 in
theorem ref03good (wt : Nat) : ∀ (S : Nat → Prop) (v : Value) (l : List Nd) (w : World), M3.weight l < wt → M3.weight l ≤ 1000000 → Sm30 l → (∀ b, S b → b < w.heap.size) → RepN S w v l →
    Calls Tryz.prog 34 #[v] w (FreshPost (M3.good l) w) := by
  induction wt with
  | zero => intro S v l w h; omega
  | succ wt ih =>
  intro S v l w hwt hw6 hsm hS hr
  have hll := M3.length_le_weight l
  obtain ⟨a, cap, rfl⟩ := hr.slice
  obtain ⟨_, hlc, hcm⟩ := hr.len
  replace ih := Lib.hid ih
  replace hsm := Lib.hid hsm
  go_enter Tryz.func34, Tryz.ntmps34
  go_wp2_with fail
  go_loopw [3, 4, 5, 6, 7, 8, 9] (fun u3 u4 _ _ _ _ _ wr => ∃ i : Nat, i ≤ l.length ∧ u4 = .int .i64 (i : Int) ∧ Fresh wr w.heap.size u3 (M3.goodN (l.take i)) ∧ Below w.heap.size w wr) (fun _ u4 _ _ _ _ _ _ => l.length - (intOf u4).toNat)
  case atStart => exact ⟨0, by omega, rfl, by rw [List.take_zero, M3.goodN_nil]; exact Fresh.nil _ _, Below.refl _ _⟩
  case round =>
    obtain ⟨i, hi, rfl, hf, hb⟩ := hrel
    have hz := hb.size
    by_cases hlt : i < l.length
    · obtain ⟨b, off, va, vk, rfl, hSb, c0, c1, c2, c3, c4, hrv⟩ := (hr.below hS hb).at_ i hlt
      have hbl := hS b hSb
      obtain ⟨hs1, hs2⟩ := sm_iff.1 hsm.out _ (List.getElem_mem hlt)
      have hwk := weight_mem (List.getElem_mem hlt)
      have hwx := weight_le (List.getElem_mem hlt)
      have hgt : M3.goodN (l.take (i + 1)) = M3.goodN (l.take i) ++ [M3.good1 l[i]] := by rw [List.take_succ_eq_append_getElem hlt, M3.goodN_map, M3.goodN_map, List.map_append]; rfl
      have hAl : (M3.goodN (l.take i)).length ≤ 1000000 := by rw [good_len]; have := List.length_take_le i l; omega
      generalize l[i] = x at *
      replace hgt := Lib.hid hgt
      generalize hA : M3.goodN (l.take i) = A at *
      replace hA := Lib.hid hA
      obtain ⟨a1, e1, rfl⟩ := hrv.at_.slice
      obtain ⟨a2, e2, rfl⟩ := hrv.kids.slice
      have hI0 : (0 : Int) ≤ (i : Int) := by omega
      have hI1 : (i : Int) < (l.length : Int) := by omega
      obtain ⟨wo, rfl⟩ : ∃ wo : World, wo = wr := ⟨_, rfl⟩
      cases x with | mk kd n ats t ks =>
      simp only [Nd.kind, Nd.name, Nd.text, Nd.attrs, Nd.kids] at *
      have hat0 : Row S wo 2 (.slice a1 ats.length e1) ats.length (cellsA ats) := hrv.at_
      have hkd0 : RepN S wo (.slice a2 ks.length e2) ks := hrv.kids
      replace hkd0 := Lib.hid hkd0
      clear hrv
      obtain ⟨zs, F, hownA, hocA, hspA⟩ := hf
      replace hocA := Lib.hid hocA
      replace hspA := Lib.hid hspA
      have hg1 := M3.good1_mk kd n ats t ks
      have hts : t.size ≤ 30 := hs1.2.1
      have hns : n.size ≤ 30 := hs1.1
      have has : ∀ a ∈ ats, a.name.size ≤ 30 ∧ a.value.size ≤ 30 := hs1.2.2
      replace has := Lib.hid has
      have hblo : b < wo.heap.size := by omega
      by_cases hk1 : M3.kindN kd = 1
      · rw [if_pos hk1] at hg1
        have hkq : Hid ((decide (kd < 1) || decide (3 < kd)) = true ∨ kd = 1) := by
          show _ ∨ _
          unfold M3.kindN at hk1
          by_cases h : kd < 1 ∨ 3 < kd
          · left; simpa using h
          · right; rw [if_neg h] at hk1; exact hk1
        go_upto_region 6 with (fail)
        go_cut [29] from 10 to 110 (fun s29 wx => s29 = .bool (decide (kd < 1) || decide (3 < kd)) ∧ wx = wo.alloc (.cells #[.int .i64 kd, .string ⟨#[]⟩, .slice none 0 0, .string ⟨#[]⟩, .slice none 0 0] 41))
        case first =>
          by_cases h1 : kd < 1
          · go_wp2_with fail
            go_meet
            case rel => exact ⟨by rw [show decide (kd < 1) = true from decide_eq_true (by omega)]; rfl, rfl⟩
          · go_wp2_with fail
            go_meet
            case rel => exact ⟨by rw [show decide (kd < 1) = false from decide_eq_false (by omega)]; rfl, rfl⟩
        case rest =>
          obtain ⟨rfl, rfl⟩ := hcut
          go_upto_if 29 with (fail)
          go_cut [] from 10 to 110 (fun wx => wx = wo.alloc (.cells #[.int .i64 1, .string ⟨#[]⟩, .slice none 0 0, .string ⟨#[]⟩, .slice none 0 0] 41))
          case first =>
            generalize hq : (decide (kd < 1) || decide (3 < kd)) = q at *
            cases q
            · obtain rfl : kd = 1 := by rcases hkq.out with h | h; cases h; exact h
              go_wp2_with fail
              go_meet
              case rel => rfl
            · go_wp2_with fail
              go_meet
              case rel => rfl
          case rest =>
            have hbx1 := Box.new wo 41 [.int .i64 1, .string ⟨#[]⟩, .slice none 0 0, .string ⟨#[]⟩, .slice none 0 0]
            have hbo1 : Below wo.heap.size wo (wo.alloc (.cells #[.int .i64 1, .string ⟨#[]⟩, .slice none 0 0, .string ⟨#[]⟩, .slice none 0 0] 41)) := (Below.refl _ _).alloc (Nat.le_refl _) _
            have hso : (wo.alloc (.cells #[.int .i64 1, .string ⟨#[]⟩, .slice none 0 0, .string ⟨#[]⟩, .slice none 0 0] 41)).heap.size = wo.heap.size + 1 := by simp
            change Box (wo.alloc (.cells #[.int .i64 1, .string ⟨#[]⟩, .slice none 0 0, .string ⟨#[]⟩, .slice none 0 0] 41)) _ _ _ at hbx1
            rw [← hcut] at hbx1 hbo1 hso
            clear hcut
            have r1 := (hbo1.cell (p := ⟨b, off + i * 5 + 1, none⟩) hblo).trans c1
            have q0 := hbx1.cell (i := 0) rfl
            have hWd := Lib.hid (ref03Word n wc (by omega))
            have hwn := M3.wordN_size n 30 hns (by omega)
            generalize M3.wordN n = nm at *
            replace hso := Lib.hid hso
            go_wp2_with fail
            refine hWd.out.mono ?_
            rintro e w2 ⟨rfl, hb2⟩
            have hz2 := hb2.size
            have hbo2 : Below wo.heap.size wo w2 := hbo1.trans (hb2.mono (by have := hso.out; omega))
            have hbx2 := hbx1.below hb2 hbx1.lt
            have d1 := hbx2.cell (i := 1) rfl
            have f1 := hbx2.free 1
            clear hWd hbx1 hbo1 hb2 q0 r1
            go_wp2_with fail
            have hbx3 := hbx2.set 1 (.string nm)
            have hbo3 : Below wo.heap.size wo (w2.setCell ⟨wo.heap.size, 1, none⟩ (.string nm)) := hbo2.setCell (p := ⟨wo.heap.size, 1, none⟩) (Nat.le_refl _) _
            simp only [List.set_cons_succ, List.set_cons_zero] at hbx3
            obtain ⟨W3, hW3⟩ : ∃ W3, w2.setCell ⟨wo.heap.size, 1, none⟩ (.string nm) = W3 := ⟨_, rfl⟩
            rw [hW3] at hbx3 hbo3 ⊢
            clear hW3 hbx2 hbo2 d1 f1
            go_loopw [6, 7, 8, 9] (fun u6 _ _ _ wr => ∃ (k : Nat) (acc : List Att) (va : Value), k ≤ ats.length ∧ u6 = .int .i64 (k : Int) ∧ Box wr wo.heap.size 41 [.int .i64 1, .string nm, va, .string ⟨#[]⟩, .slice none 0 0] ∧ wr.ownsRow (wo.heap.size + 1) 43 2 va acc.length (cellsA acc) ∧ Hid (acc = M3.goodA (ats.take k)) ∧ Below wo.heap.size wo wr) (fun u6 _ _ _ _ => ats.length - (intOf u6).toNat)
            case atStart => exact ⟨0, [], _, by omega, rfl, hbx3, World.ownsRow_nil _ _ _ _, rfl, hbo3⟩
            case round =>
              obtain ⟨k, acc, va, hk, rfl, hbx, hown, hacc, hbo⟩ := hrel
              have hz3 := hbo.size
              have hgl := hbx.lt
              have r2 := (hbo.cell (p := ⟨b, off + i * 5 + 2, none⟩) hblo).trans c2
              clear hbx3 hbo3
              by_cases hkl : k < ats.length
              · obtain ⟨ab, aoff, rfl, hSab, p0, p1⟩ := (hat0.below (fun c hc => by have := hS c hc; omega) hbo).atA k hkl
                have habl := hS ab hSab
                obtain ⟨hsa, hsv⟩ := has.out _ (List.getElem_mem hkl)
                have htk : M3.goodA (ats.take (k + 1)) = M3.addA (M3.goodA (ats.take k)) ats[k] := by rw [List.take_succ_eq_append_getElem hkl, M3.goodA_snoc]
                have hacl : acc.length ≤ k := by rw [hacc.out]; have := M3.goodA_len (ats.take k); have := List.length_take_le k ats; omega
                have hadd : M3.addA acc ats[k] = if (M3.valueOf (M3.attrN ats[k].name) acc).isSome then acc else acc ++ [⟨M3.attrN ats[k].name, M3.rightN ats[k].value⟩] := rfl
                rw [← hacc.out, hadd] at htk
                clear hadd
                have hAt := Lib.hid (fun W => ref03Attribute ats[k].name W (by omega))
                generalize ats[k].name = an at *
                generalize ats[k].value = av at *
                have hK0 : (0 : Int) ≤ (k : Int) := by omega
                have hK1 : (k : Int) < (ats.length : Int) := by omega
                replace htk := Lib.hid htk
                go_upto_region 15 with (fail)
                refine wp_region_known (n := 24) ([some (.slice (some ⟨b, off, none⟩) l.length cap), some (.int .i64 (i : Int)), some (.pointer (some ⟨b, off + i * 5, none⟩)), some (.pointer (some ⟨b, off + i * 5 + 2, none⟩)), some (.slice (some ⟨ab, aoff, none⟩) ats.length e1), some (.int .i64 (k : Int)), some (.pointer (some ⟨ab, aoff + k * 2, none⟩)), some (.pointer (some ⟨ab, aoff + k * 2, none⟩)), some (.string an), some (.string (M3.attrN an)), some (.slice (some ⟨b, off, none⟩) l.length cap), some (.int .i64 (i : Int)), some (.pointer (some ⟨b, off + i * 5, none⟩)), some (.pointer (some ⟨b, off + i * 5 + 2, none⟩)), some (.slice (some ⟨ab, aoff, none⟩) ats.length e1), some (.int .i64 (k : Int)), some (.pointer (some ⟨ab, aoff + k * 2, none⟩)), some (.pointer (some ⟨ab, aoff + k * 2 + 1, none⟩)), some (.string av), none, some (.string ⟨(M1.right av.data.toList).toArray⟩), some (.agg #[.string (M3.attrN an), .string ⟨(M1.right av.data.toList).toArray⟩]), none, none] : List (Option Value)) (fun t => ⟨#[Value.slice (some { block := b, off := off }) l.length cap, undef, Value.slice none 0 0, u3, Value.int IntKind.i64 ↑i, Value.pointer (some { block := wo.heap.size, off := 0 }), Value.int IntKind.i64 ↑k, t 22, u8, u9, u10, u11, u12, u13, u14, u15, u16, u17, u18, u19, u20, u21, u22, u23, u24, u25, u26, u27, u28, u29, u30, Value.pointer (some { block := wo.heap.size, off := 0 }), Value.int IntKind.i64 1, Value.bool false, u34, u35, u36, u37, u38, u39, u40, u41, u42, u43, u44, u45, Value.slice (some { block := b, off := off }) l.length cap, Value.int IntKind.i64 ↑i, Value.pointer (some { block := b, off := off + i * 5 }), Value.pointer (some { block := b, off := off + i * 5 + 1 }), Value.string n, Value.string nm, Value.pointer (some { block := wo.heap.size, off := 1 }), Value.int IntKind.i64 ↑k, Value.slice (some { block := b, off := off }) l.length cap, Value.int IntKind.i64 ↑i, Value.pointer (some { block := b, off := off + i * 5 }), Value.pointer (some { block := b, off := off + i * 5 + 2 }), Value.slice (some { block := ab, off := aoff }) ats.length e1, Value.int IntKind.i64 ↑ats.length, Value.bool true, u61, u62, t 0, t 1, t 2, t 3, t 4, t 5, t 6, t 7, t 8, t 9, t 10, t 11, t 12, t 13, t 14, t 15, t 16, t 17, t 18, t 19, t 20, t 21, u85, u86, u87, u88, u89, u90, u91, u92, u93, u94, u95, u96, u97, u98, u99, u100, u101, u102, u103, u104, u105, u106, u107, u108, u109, u110, undef, undef], []⟩) (fun f t W => AttI wr av (M3.attrN an) ⟨(M1.right av.data.toList).toArray⟩ f t W) (fun j => match j with | 0 => u63 | 1 => u64 | 2 => u65 | 3 => u66 | 4 => u67 | 5 => u68 | 6 => u69 | 7 => u70 | 8 => u71 | 9 => u72 | 10 => u73 | 11 => u74 | 12 => u75 | 13 => u76 | 14 => u77 | 15 => u78 | 16 => u79 | 17 => u80 | 18 => u81 | 19 => u82 | 20 => u83 | 21 => u84 | 22 => u7 | _ => undef) (by kernel_rfl) (by rfl) (by rfl) (by kernel_rfl) rfl ?i0 ?step ?fin
                case i0 =>
                  exact AttI.start _ _ _ _ _ (by simp) (by simp) (by simp)
                case step =>
                  intro i hi f t W hfi hwt hk hI
                  have s0 := cell_of_below hI.1 r2 (by omega)
                  have s1 := cell_of_below hI.1 p0 (by omega)
                  have s2 := cell_of_below hI.1 p1 (by omega)
                  obtain rfl | rfl | rfl | rfl | rfl | rfl | rfl | rfl | rfl | rfl | rfl | rfl | rfl | rfl | rfl | rfl | rfl | rfl | rfl | rfl | rfl | rfl | rfl | rfl : i = 0 ∨ i = 1 ∨ i = 2 ∨ i = 3 ∨ i = 4 ∨ i = 5 ∨ i = 6 ∨ i = 7 ∨ i = 8 ∨ i = 9 ∨ i = 10 ∨ i = 11 ∨ i = 12 ∨ i = 13 ∨ i = 14 ∨ i = 15 ∨ i = 16 ∨ i = 17 ∨ i = 18 ∨ i = 19 ∨ i = 20 ∨ i = 21 ∨ i = 22 ∨ i = 23 := by omega
                  · -- operation 0
                    replace hI := Lib.hid hI
                    replace hk := Lib.hid hk
                    clear hwt
                    refine wpOp_step rfl (fun K hK => ?_)
                    go_simp
                    exact hK _ _ ⟨_, by simp [updT], hk.out.at_ rfl, hI.out⟩
                  · -- operation 1
                    replace hI := Lib.hid hI
                    replace hk := Lib.hid hk
                    clear hwt
                    refine wpOp_step rfl (fun K hK => ?_)
                    go_simp
                    exact hK _ _ ⟨_, by simp [updT], hk.out.at_ rfl, hI.out⟩
                  · -- operation 2
                    have e0 : t 0 = .slice (some ⟨b, off, none⟩) l.length cap := hk 0 _ (hwt 0 (by kernel_rfl)) rfl
                    have e1 : t 1 = .int .i64 (i : Int) := hk 1 _ (hwt 1 (by kernel_rfl)) rfl
                    replace hI := Lib.hid hI
                    replace hk := Lib.hid hk
                    clear hwt
                    refine wpOp_step rfl (fun K hK => ?_)
                    go_simp
                    exact hK _ _ ⟨_, by simp [updT, e0, e1], hk.out.at_ rfl, hI.out⟩
                  · -- operation 3
                    have e2 : t 2 = .pointer (some ⟨b, off + i * 5, none⟩) := hk 2 _ (hwt 2 (by kernel_rfl)) rfl
                    replace hI := Lib.hid hI
                    replace hk := Lib.hid hk
                    clear hwt
                    refine wpOp_step rfl (fun K hK => ?_)
                    go_simp
                    exact hK _ _ ⟨_, by simp [updT, e2], hk.out.at_ rfl, hI.out⟩
                  · -- operation 4
                    have e3 : t 3 = .pointer (some ⟨b, off + i * 5 + 2, none⟩) := hk 3 _ (hwt 3 (by kernel_rfl)) rfl
                    replace hI := Lib.hid hI
                    replace hk := Lib.hid hk
                    clear hwt
                    refine wpOp_step rfl (fun K hK => ?_)
                    go_simp
                    exact hK _ _ ⟨_, by simp [updT, e3], hk.out.at_ rfl, hI.out⟩
                  · -- operation 5
                    replace hI := Lib.hid hI
                    replace hk := Lib.hid hk
                    clear hwt
                    refine wpOp_step rfl (fun K hK => ?_)
                    go_simp
                    exact hK _ _ ⟨_, by simp [updT], hk.out.at_ rfl, hI.out⟩
                  · -- operation 6
                    have e4 : t 4 = .slice (some ⟨ab, aoff, none⟩) ats.length e1 := hk 4 _ (hwt 4 (by kernel_rfl)) rfl
                    have e5 : t 5 = .int .i64 (k : Int) := hk 5 _ (hwt 5 (by kernel_rfl)) rfl
                    replace hI := Lib.hid hI
                    replace hk := Lib.hid hk
                    clear hwt
                    refine wpOp_step rfl (fun K hK => ?_)
                    go_simp
                    exact hK _ _ ⟨_, by simp [updT, e4, e5], hk.out.at_ rfl, hI.out⟩
                  · -- operation 7
                    have e6 : t 6 = .pointer (some ⟨ab, aoff + k * 2, none⟩) := hk 6 _ (hwt 6 (by kernel_rfl)) rfl
                    replace hI := Lib.hid hI
                    replace hk := Lib.hid hk
                    clear hwt
                    refine wpOp_step rfl (fun K hK => ?_)
                    go_simp
                    exact hK _ _ ⟨_, by simp [updT, e6], hk.out.at_ rfl, hI.out⟩
                  · -- operation 8
                    have e7 : t 7 = .pointer (some ⟨ab, aoff + k * 2, none⟩) := hk 7 _ (hwt 7 (by kernel_rfl)) rfl
                    replace hI := Lib.hid hI
                    replace hk := Lib.hid hk
                    clear hwt
                    refine wpOp_step rfl (fun K hK => ?_)
                    go_simp
                    exact hK _ _ ⟨_, by simp [updT, e7], hk.out.at_ rfl, hI.out⟩
                  · -- operation 9
                    have e8 : t 8 = .string an := hk 8 _ (hwt 8 (by kernel_rfl)) rfl
                    replace hk := Lib.hid hk
                    replace hI := Lib.hid hI
                    clear hwt
                    refine wpOp_step rfl (fun K hK => ?_)
                    go_simp
                    refine (hAt.out _).mono ?_
                    rintro e w5 ⟨rfl, hb5⟩
                    exact hK _ _ ⟨_, by simp [updT, e8], hk.out.at_ rfl, hI.out.next hb5⟩
                  · -- operation 10
                    replace hI := Lib.hid hI
                    replace hk := Lib.hid hk
                    clear hwt
                    refine wpOp_step rfl (fun K hK => ?_)
                    go_simp
                    exact hK _ _ ⟨_, by simp [updT], hk.out.at_ rfl, hI.out⟩
                  · -- operation 11
                    replace hI := Lib.hid hI
                    replace hk := Lib.hid hk
                    clear hwt
                    refine wpOp_step rfl (fun K hK => ?_)
                    go_simp
                    exact hK _ _ ⟨_, by simp [updT], hk.out.at_ rfl, hI.out⟩
                  · -- operation 12
                    have e10 : t 10 = .slice (some ⟨b, off, none⟩) l.length cap := hk 10 _ (hwt 10 (by kernel_rfl)) rfl
                    have e11 : t 11 = .int .i64 (i : Int) := hk 11 _ (hwt 11 (by kernel_rfl)) rfl
                    replace hI := Lib.hid hI
                    replace hk := Lib.hid hk
                    clear hwt
                    refine wpOp_step rfl (fun K hK => ?_)
                    go_simp
                    exact hK _ _ ⟨_, by simp [updT, e10, e11], hk.out.at_ rfl, hI.out⟩
                  · -- operation 13
                    have e12 : t 12 = .pointer (some ⟨b, off + i * 5, none⟩) := hk 12 _ (hwt 12 (by kernel_rfl)) rfl
                    replace hI := Lib.hid hI
                    replace hk := Lib.hid hk
                    clear hwt
                    refine wpOp_step rfl (fun K hK => ?_)
                    go_simp
                    exact hK _ _ ⟨_, by simp [updT, e12], hk.out.at_ rfl, hI.out⟩
                  · -- operation 14
                    have e13 : t 13 = .pointer (some ⟨b, off + i * 5 + 2, none⟩) := hk 13 _ (hwt 13 (by kernel_rfl)) rfl
                    replace hI := Lib.hid hI
                    replace hk := Lib.hid hk
                    clear hwt
                    refine wpOp_step rfl (fun K hK => ?_)
                    go_simp
                    exact hK _ _ ⟨_, by simp [updT, e13], hk.out.at_ rfl, hI.out⟩
                  · -- operation 15
                    replace hI := Lib.hid hI
                    replace hk := Lib.hid hk
                    clear hwt
                    refine wpOp_step rfl (fun K hK => ?_)
                    go_simp
                    exact hK _ _ ⟨_, by simp [updT], hk.out.at_ rfl, hI.out⟩
                  · -- operation 16
                    have e14 : t 14 = .slice (some ⟨ab, aoff, none⟩) ats.length e1 := hk 14 _ (hwt 14 (by kernel_rfl)) rfl
                    have e15 : t 15 = .int .i64 (k : Int) := hk 15 _ (hwt 15 (by kernel_rfl)) rfl
                    replace hI := Lib.hid hI
                    replace hk := Lib.hid hk
                    clear hwt
                    refine wpOp_step rfl (fun K hK => ?_)
                    go_simp
                    exact hK _ _ ⟨_, by simp [updT, e14, e15], hk.out.at_ rfl, hI.out⟩
                  · -- operation 17
                    have e16 : t 16 = .pointer (some ⟨ab, aoff + k * 2, none⟩) := hk 16 _ (hwt 16 (by kernel_rfl)) rfl
                    replace hI := Lib.hid hI
                    replace hk := Lib.hid hk
                    clear hwt
                    refine wpOp_step rfl (fun K hK => ?_)
                    go_simp
                    exact hK _ _ ⟨_, by simp [updT, e16], hk.out.at_ rfl, hI.out⟩
                  · -- operation 18
                    have e17 : t 17 = .pointer (some ⟨ab, aoff + k * 2 + 1, none⟩) := hk 17 _ (hwt 17 (by kernel_rfl)) rfl
                    replace hI := Lib.hid hI
                    replace hk := Lib.hid hk
                    clear hwt
                    refine wpOp_step rfl (fun K hK => ?_)
                    go_simp
                    exact hK _ _ ⟨_, by simp [updT, e17], hk.out.at_ rfl, hI.out⟩
                  · -- operation 19
                    have e18 : t 18 = .string av := hk 18 _ (hwt 18 (by kernel_rfl)) rfl
                    replace hk := Lib.hid hk
                    replace hI := Lib.hid hI
                    clear hwt
                    obtain ⟨x1, w1, hc1, y1, b1⟩ := conv_bytes W av (by omega)
                    refine wpOp_step rfl (fun K hK => ?_)
                    go_simp
                    exact hK _ _ ⟨_, by simp [updT, e18], hk.out.free rfl, (hI.out.next b1).conv y1⟩
                  · -- operation 20
                    have hf23 : f 23 = false := by
                      cases h2 : f 23
                      · rfl
                      · rw [(hI.2.2.1 h2).2] at hfi; cases hfi
                    have hsl := hI.2.1 (hwt 19 (by kernel_rfl)) hf23
                    replace hf23 := Lib.hid hf23
                    have hR := Lib.hid (ref01Right (t 19) av.data.toList W hsl (by show av.size ≤ _; omega))
                    replace hk := Lib.hid hk
                    replace hI := Lib.hid hI
                    clear hwt
                    refine wpOp_step rfl (fun K hK => ?_)
                    go_simp
                    refine hR.out.mono ?_
                    rintro e w5 ⟨rfl, hb5⟩
                    exact hK _ _ ⟨_, by simp [updT], hk.out.at_ rfl, (hI.out.next hb5).right⟩
                  · -- operation 21
                    have e9 : t 9 = .string (M3.attrN an) := hk 9 _ (hwt 9 (by kernel_rfl)) rfl
                    have e20 : t 20 = .string ⟨(M1.right av.data.toList).toArray⟩ := hk 20 _ (hwt 20 (by kernel_rfl)) rfl
                    replace hI := Lib.hid hI
                    replace hk := Lib.hid hk
                    clear hwt
                    refine wpOp_step rfl (fun K hK => ?_)
                    go_simp
                    exact hK _ _ ⟨_, by simp [updT, e9, e20], hk.out.at_ rfl, hI.out⟩
                  · -- operation 22
                    replace hk := Lib.hid hk
                    replace hI := Lib.hid hI
                    clear hwt
                    refine wpOp_step rfl (fun K hK => ?_)
                    go_simp
                    exact hK _ _ ⟨_, by simp [updT], hk.out.free rfl, hI.out.made hfi⟩
                  · -- operation 23
                    have e21 : t 21 = .agg #[.string (M3.attrN an), .string ⟨(M1.right av.data.toList).toArray⟩] := hk 21 _ (hwt 21 (by kernel_rfl)) rfl
                    obtain ⟨ga, e22, hga, hbx⟩ := hI.2.2.2 (hwt 22 (by kernel_rfl))
                    rw [hfi] at hbx
                    change Box W ga _ [.string ⟨#[]⟩, .string ⟨#[]⟩] at hbx
                    have y0 := hbx.cell (i := 0) rfl
                    have y1 := hbx.cell (i := 1) rfl
                    have z0 := hbx.free 0
                    have z1 := hbx.free 1
                    have f22 := Lib.hid (hwt 22 (by kernel_rfl))
                    have f20 := Lib.hid (hwt 20 (by kernel_rfl))
                    replace hk := Lib.hid hk
                    replace hI := Lib.hid hI
                    clear hwt
                    refine wpOp_step rfl (fun K hK => ?_)
                    go_simp
                    exact hK _ _ ⟨undef, by simp [updT, e21, e22], hk.out.free rfl, hI.out.put f22.out f20.out e22 hga hbx⟩
                case fin =>
                  intro f t W hall hk hI
                  obtain ⟨ga, e22, hga, hba⟩ := hI.2.2.2 (hall 22 (by omega))
                  rw [hall 23 (by omega)] at hba
                  change Box W ga _ [.string (M3.attrN an), .string ⟨(M1.right av.data.toList).toArray⟩] at hba
                  have hB := hI.1
                  clear hk hI hall hAt
                  dsimp only
                  rw [e22]
                  have hrr : (⟨(M1.right av.data.toList).toArray⟩ : ByteArray) = M3.rightN av := rfl
                  rw [hrr] at hba
                  clear hrr p0 p1 r2 e22
                  generalize M3.attrN an = an2 at *
                  generalize M3.rightN av = av2 at *
                  have hbn := hbx.below hB hgl
                  have hownW := own_below3 hown hB
                  obtain ⟨a6, e6, rfl⟩ := own_slice hown
                  have n0 := hbn.cell (i := 0) rfl
                  have n1 := hbn.cell (i := 1) rfl
                  have n2 := hbn.cell (i := 2) rfl
                  have n3 := hbn.cell (i := 3) rfl
                  have n4 := hbn.cell (i := 4) rfl
                  have m0 := hba.cell (i := 0) rfl
                  have m1 := hba.cell (i := 1) rfl
                  have hrowW : Row (fun b => b < W.heap.size) W 2 (.slice a6 acc.length e6) acc.length (cellsA acc) := Row.own hownW (fun g hg => (hownW.lt g hg).2)
                  have hVl := Lib.hid (ref03Value (fun b => b < W.heap.size) (.mk 1 nm acc ⟨#[]⟩ []) (.slice a6 acc.length e6) (.slice none 0 0) an2 W (fun _ h => h) hrowW ⟨_, _, _, rfl⟩)
                  have hboW : Below wo.heap.size wo W := hbo.trans (hB.mono hz3)
                  replace hownW := Lib.hid hownW
                  replace hown := Lib.hid hown
                  clear hbx hrowW
                  obtain ⟨o, ho⟩ : ∃ o, M3.valueOf an2 acc = o := ⟨_, rfl⟩
                  change Hid (Calls Tryz.prog 49 #[Value.agg #[.int .i64 1, .string nm, .slice a6 acc.length e6, .string ⟨#[]⟩, .slice none 0 0], .string an2] W fun e w' => e = .returned (valAns (M3.valueOf an2 acc)) ∧ Below W.heap.size W w') at hVl
                  rw [ho] at hVl htk
                  clear ho
                  go_wp2_with fail
                  cases o with
                  | some sv =>
                    replace htk : Hid (M3.goodA (ats.take (k + 1)) = acc) := htk
                    change Hid (Calls Tryz.prog 49 #[Value.agg #[.int .i64 1, .string nm, .slice a6 acc.length e6, .string ⟨#[]⟩, .slice none 0 0], .string an2] W fun e w' => e = .returned (.tuple #[.string sv, .bool true]) ∧ Below W.heap.size W w') at hVl
                    refine hVl.out.mono ?_
                    rintro e w6 ⟨rfl, hb6⟩
                    have hbo6 : Below wo.heap.size wo w6 := hboW.trans (hb6.mono (by have := hB.size; omega))
                    have hbn6 := hbn.below hb6 hbn.lt
                    have hown6 := own_below3 hownW.out hb6
                    clear hVl hbn hba n0 n1 n2 n3 n4 m0 m1
                    go_wp2_with fail
                    go_roundw
                    case rel => exact ⟨k + 1, acc, _, by omega, by go_num, hbn6, hown6, by show _ = _; rw [htk.out], hbo6⟩
                    case measure => exact meas_nat hkl
                  | none =>
                    replace htk : Hid (M3.goodA (ats.take (k + 1)) = acc ++ [⟨an2, av2⟩]) := htk
                    change Hid (Calls Tryz.prog 49 #[Value.agg #[.int .i64 1, .string nm, .slice a6 acc.length e6, .string ⟨#[]⟩, .slice none 0 0], .string an2] W fun e w' => e = .returned (.tuple #[.string ⟨#[]⟩, .bool false]) ∧ Below W.heap.size W w') at hVl
                    refine hVl.out.mono ?_
                    rintro e w6 ⟨rfl, hb6⟩
                    have hbo6 : Below wo.heap.size wo w6 := hboW.trans (hb6.mono (by have := hB.size; omega))
                    have hbn6 := hbn.below hb6 hbn.lt
                    have hba6 := hba.below hb6 hba.lt
                    have hown6 := own_below3 hownW.out hb6
                    have hgl6 := hbn6.lt
                    clear hVl hbn hba n0 n1 n2 n3 n4 m0 m1
                    have n2 := hbn6.cell (i := 2) rfl
                    have m0 := hba6.cell (i := 0) rfl
                    have m1 := hba6.cell (i := 1) rfl
                    have hbo6z : wo.heap.size + 1 ≤ w6.heap.size := by omega
                    go_wp2_with (at_builtin; refine wpList_appK _ [.string an2, .string av2] 2 rfl _ _ 39 43 rfl (wo.heap.size + 1) Tryz.underlying39 infoA rfl (by omega) _ acc.length (cellsA acc) rfl hown6 _ rfl rfl rfl (by simp [Value.oneCell']) (by omega) (by omega) hbo6z ?_; intro g cp w7 hown7 hgrow7 hat7; have hbn7 := hbn6.keep (hgrow7.block _ hgl6 (fun e => by have := (hown6.lt _ e.symm).1; omega)); have k2 := hbn7.cell (i := 2) rfl; have kf2 := hbn7.free 2)
                    have hbo7 : Below wo.heap.size wo w7 := hbo6.grown hgrow7 (by omega) (fun k hk => by have := (hown6.lt k hk).1; omega)
                    have hbn8 := hbn7.set 2 (.slice (some ⟨g, 0, none⟩) (acc.length + 1) cp)
                    simp only [List.set_cons_succ, List.set_cons_zero] at hbn8
                    have hbo8 : Below wo.heap.size wo (w7.setCell ⟨wo.heap.size, 2, none⟩ (.slice (some ⟨g, 0, none⟩) (acc.length + 1) cp)) := hbo7.setCell (p := ⟨wo.heap.size, 2, none⟩) (Nat.le_refl _) _
                    have hown8 : (w7.setCell ⟨wo.heap.size, 2, none⟩ (.slice (some ⟨g, 0, none⟩) (acc.length + 1) cp)).ownsRow (wo.heap.size + 1) 43 2 (.slice (some ⟨g, 0, none⟩) (acc.length + 1) cp) (acc ++ ([⟨an2, av2⟩] : List Att)).length (cellsA (acc ++ ([⟨an2, av2⟩] : List Att))) := by
                      rw [cellsA_append, List.length_append]
                      exact own_keep hown7 (fun g' hg' => Below.heap_setCell _ _ _ _ (by have := (hown7.lt g' hg').1; simp; omega))
                    clear hown7 hgrow7 hat7 k2 kf2
                    go_roundw
                    case rel => exact ⟨k + 1, acc ++ [⟨an2, av2⟩], _, by omega, by go_num, hbn8, hown8, by show _ = _; rw [htk.out], hbo8⟩
                    case measure => exact meas_nat hkl
              · obtain rfl : k = ats.length := by omega
                rw [List.take_length] at hacc
                have hgg : M3.good1 (.mk kd n ats t ks) = .mk 1 nm acc ⟨#[]⟩ (M3.good ks) := by rw [hacc.out]; exact hg1
                rw [hgg] at hgt
                have hacl : acc.length ≤ ats.length := by rw [hacc.out]; exact M3.goodA_len ats
                have r4 := (hbo.cell (p := ⟨b, off + i * 5 + 4, none⟩) hblo).trans c4
                obtain ⟨a6, e6, rfl⟩ := own_slice hown
                have hkw : M3.weight ks < wt := by have h0 : M3.weight ks < M3.weight l := hwk; omega
                have hkd := Lib.hid (ih.out S (.slice a2 ks.length e2) ks wr hkw (by omega) hs2 (fun c hc => by have := hS c hc; omega) (hkd0.out.below (fun c hc => by have := hS c hc; omega) hbo))
                clear hg1 hgg hacc c0 c1 c2 c3 c4
                go_wp2_with fail
                refine hkd.out.mono ?_
                rintro e w6 ⟨vk6, rfl, ⟨zk, Fk, hownk, hock, hspk⟩, hb6⟩
                obtain ⟨a7, e7, rfl⟩ := own_slice hownk
                have hbo6 : Below wo.heap.size wo w6 := hbo.trans (hb6.mono hz3)
                have hbn6 := hbx.below hb6 hgl
                have hgl6 := hbn6.lt
                have n0 := hbn6.cell (i := 0) rfl
                have n1 := hbn6.cell (i := 1) rfl
                have n2 := hbn6.cell (i := 2) rfl
                have n3 := hbn6.cell (i := 3) rfl
                have n4 := hbn6.cell (i := 4) rfl
                have nf4 := hbn6.free 4
                have hown6 := own_below3 hown hb6
                have hbo7 : Below wo.heap.size wo (w6.setCell ⟨wo.heap.size, 4, none⟩ (.slice a7 (M3.good ks).length e7)) := hbo6.setCell (p := ⟨wo.heap.size, 4, none⟩) (Nat.le_refl _) _
                have hsz7 : (w6.setCell ⟨wo.heap.size, 4, none⟩ (.slice a7 (M3.good ks).length e7)).heap.size = w6.heap.size := by simp [World.setCell]
                have hfar7 : ∀ c, c ≠ wo.heap.size → (w6.setCell ⟨wo.heap.size, 4, none⟩ (.slice a7 (M3.good ks).length e7)).heap[c]? = w6.heap[c]? := fun c hc => Below.heap_setCell _ _ _ _ (by simpa using hc)
                have hownA7 := own_below3 hownA hbo7
                have hsz8 : w.heap.size ≤ (w6.setCell ⟨wo.heap.size, 4, none⟩ (.slice a7 (M3.good ks).length e7)).heap.size := by omega
                have hown7 := own_keep hown6 (w' := w6.setCell ⟨wo.heap.size, 4, none⟩ (.slice a7 (M3.good ks).length e7)) (fun g hg => hfar7 g (by have := (hown6.lt g hg).1; omega))
                have hownk7 := own_keep hownk (w' := w6.setCell ⟨wo.heap.size, 4, none⟩ (.slice a7 (M3.good ks).length e7)) (fun g hg => hfar7 g (by have := (hownk.lt g hg).1; omega))
                have hock7 := OwnC.keep (w' := w6.setCell ⟨wo.heap.size, 4, none⟩ (.slice a7 (M3.good ks).length e7)) _ _ _ (fun c hc => hfar7 c (by have := (hspk.2 c (by simp [hc])).1; omega)) hock
                have hspa := Span.own hown
                replace hsz7 := Lib.hid hsz7
                replace hown7 := Lib.hid hown7
                replace hownk7 := Lib.hid hownk7
                replace hock7 := Lib.hid hock7
                replace hfar7 := Lib.hid hfar7
                replace hown := Lib.hid hown
                replace hown6 := Lib.hid hown6
                replace hownk := Lib.hid hownk
                clear hkd hock
                go_wp2_with (at_builtin; refine wpList_appK _ [.int .i64 1, .string nm, .slice a6 acc.length e6, .string ⟨#[]⟩, .slice a7 (M3.good ks).length e7] 5 rfl _ _ 25 41 rfl w.heap.size Tryz.underlying25 infoN rfl (by omega) u3 A.length zs rfl hownA7 w6.heap.size hsz7.out (by rfl) rfl (five_one _ _ _ _ _ _ _ _ _) (by omega) (by omega) hsz8 ?_; intro g cp w5 hown5 hgrow5 hat5)
                have hb5 : Below w.heap.size w w5 := below_own (hb.trans (hbo7.mono hz)) hownA7 hgrow5 hsz8 (Nat.le_refl _)
                have hfr5 : Fresh w5 w.heap.size (.slice (some ⟨g, 0, none⟩) (A.length + 1) cp) (A ++ [.mk 1 nm acc ⟨#[]⟩ (M3.good ks)]) := by
                  refine Fresh.snoc (W := w6.setCell ⟨wo.heap.size, 4, none⟩ (.slice a7 (M3.good ks).length e7)) (mid := wo.heap.size) (F := F) (zs2 := zk) (F2 := Fk) rfl hown5 hgrow5 hat5 (OwnC.keep _ _ _ (fun c h => hbo7.block c (hspA.out.2 c (by simp [h])).2) hocA.out) hspA.out (own_base hown7.out (fun _ _ => Nat.zero_le _)) (own_base hownk7.out (fun _ _ => Nat.zero_le _)) hock7.out ?_ hz (by have := hsz7.out; omega)
                  have h1 := Span.append hspa hspk (by omega) hb6.size
                  exact h1.mono (by omega) (by have := hsz7.out; omega)
                clear hown5 hgrow5 hat5
                go_roundw
                case rel => exact ⟨i + 1, by omega, by go_num, by rw [hgt.out]; exact hfr5, hb5⟩
                case measure => exact meas_nat hlt
      · rw [if_neg hk1] at hg1
        have hkk : M3.kindN kd = kd := by
          unfold M3.kindN at hk1 ⊢
          split at hk1
          · exact absurd rfl hk1
          · rename_i h; rw [if_neg h]
        rw [hkk] at hg1 hk1
        have hk23 : kd = 2 ∨ kd = 3 := by
          have := M3.kindN_in kd
          rw [hkk] at this
          omega
        obtain ⟨x1, w1, hc1, s1, b1⟩ := conv_bytes (wo.alloc (.cells #[.int .i64 kd, .string ⟨#[]⟩, .slice none 0 0, .string ⟨#[]⟩, .slice none 0 0] 41)) t (by omega)
        have hR := Lib.hid (ref01Right x1 _ w1 s1 (by show t.size ≤ _; omega))
        have hkd1 : (kd != 1) = true := by simp [bne]; omega
        have hkd2 : ¬ (kd < 1) := by omega
        have hkd3 : ¬ (3 < kd) := by omega
        have hbx0 := Box.new wo 41 [.int .i64 kd, .string ⟨#[]⟩, .slice none 0 0, .string ⟨#[]⟩, .slice none 0 0]
        have hbo0 : Below wo.heap.size wo (wo.alloc (.cells #[.int .i64 kd, .string ⟨#[]⟩, .slice none 0 0, .string ⟨#[]⟩, .slice none 0 0] 41)) := (Below.refl _ _).alloc (Nat.le_refl _) _
        have hso : (wo.alloc (.cells #[.int .i64 kd, .string ⟨#[]⟩, .slice none 0 0, .string ⟨#[]⟩, .slice none 0 0] 41)).heap.size = wo.heap.size + 1 := by simp
        have hz1 := b1.size
        rw [hso] at hz1
        have hbo1 : Below wo.heap.size wo w1 := hbo0.trans (b1.mono (by omega))
        have hbx1 := (show Box (wo.alloc (.cells #[.int .i64 kd, .string ⟨#[]⟩, .slice none 0 0, .string ⟨#[]⟩, .slice none 0 0] 41)) _ _ _ from hbx0).below b1 (by omega)
        have hgx : M3.good1 (.mk kd n ats t ks) = .mk kd ⟨#[]⟩ [] ⟨(M1.right t.data.toList).toArray⟩ [] := hg1
        have hrl := M1.right_len t.data.toList
        have htl : t.data.toList.length ≤ 30 := hts
        rw [hgx] at hgt
        clear hg1 hgx hbo0 hbx0 b1
        replace hso := Lib.hid hso
        generalize M1.right t.data.toList = rt at *
        go_wp2_with fail
        refine hR.out.mono ?_
        rintro e w2 ⟨rfl, hb2⟩
        have hz2 := hb2.size
        have hbo2 : Below wo.heap.size wo w2 := hbo1.trans (hb2.mono (by omega))
        have hbx2 := hbx1.below hb2 (by omega)
        have d0 := hbx2.cell (i := 0) rfl
        have d1 := hbx2.cell (i := 1) rfl
        have d2 := hbx2.cell (i := 2) rfl
        have d3 := hbx2.cell (i := 3) rfl
        have d4 := hbx2.cell (i := 4) rfl
        have f3 := hbx2.free 3
        have hbo3 : Below wo.heap.size wo (w2.setCell ⟨wo.heap.size, 3, none⟩ (.string ⟨rt.toArray⟩)) := hbo2.setCell (p := ⟨wo.heap.size, 3, none⟩) (Nat.le_refl _) _
        have hsz3 : (w2.setCell ⟨wo.heap.size, 3, none⟩ (.string ⟨rt.toArray⟩)).heap.size = w2.heap.size := by simp [World.setCell]
        have hsz4 : w.heap.size ≤ (w2.setCell ⟨wo.heap.size, 3, none⟩ (.string ⟨rt.toArray⟩)).heap.size := by omega
        have hown3 := own_below3 hownA hbo3
        replace hsz3 := Lib.hid hsz3
        clear hR hbx1 s1 c0 c1 c2 c3 c4
        go_wp2_with (at_builtin; refine wpList_appK _ [.int .i64 kd, .string ⟨#[]⟩, .slice none 0 0, .string ⟨rt.toArray⟩, .slice none 0 0] 5 rfl _ _ 25 41 rfl w.heap.size Tryz.underlying25 infoN rfl (by omega) u3 A.length zs rfl hown3 w2.heap.size hsz3.out (by rfl) rfl (five_one _ _ _ _ _ _ _ _ _) (by omega) (by omega) hsz4 ?_; intro g cp w5 hown5 hgrow5 hat5)
        have hb5 : Below w.heap.size w w5 := below_own (hb.trans (hbo3.mono hz)) hown3 hgrow5 hsz4 (Nat.le_refl _)
        have hfr5 : Fresh w5 w.heap.size (.slice (some ⟨g, 0, none⟩) (A.length + 1) cp) (A ++ [.mk kd ⟨#[]⟩ [] ⟨rt.toArray⟩ []]) := by
          refine Fresh.snoc (W := w2.setCell ⟨wo.heap.size, 3, none⟩ (.string ⟨rt.toArray⟩)) (mid := wo.heap.size) (F := F) (zs2 := []) (F2 := []) rfl hown5 hgrow5 hat5 (OwnC.keep _ _ _ (fun b h => hbo3.block b (hspA.out.2 b (by simp [h])).2) hocA.out) hspA.out (World.ownsRow_nil _ _ _ _) (World.ownsRow_nil _ _ _ _) (OwnC.nil _) (Span.nil _ _) hz (by have := hsz3.out; omega)
        clear hown5 hgrow5 hat5
        go_roundw
        case rel => exact ⟨i + 1, by omega, by go_num, by rw [hgt.out]; exact hfr5, hb5⟩
        case measure => exact meas_nat hlt
    · obtain rfl : i = l.length := by omega
      rw [List.take_length] at hf
      have hlg := good_len l
      have htx := good_txt l hsm.out
      have hM := Lib.hid (ref03MergeF w.heap.size u3 _ wr hz hf (by omega) (by omega))
      obtain ⟨a3, c3, hu3⟩ : ∃ a c, u3 = .slice a (M3.goodN l).length c := by obtain ⟨_, _, h, _⟩ := hf; exact own_slice h
      subst hu3
      clear hf hlg htx
      go_wp2_with fail
      refine hM.out.mono ?_
      rintro e w1 ⟨v1, rfl, hfr1, hb1⟩
      have hbb : Below w.heap.size w w1 := hb.trans (hb1.mono hz)
      clear hM
      replace hfr1 := Lib.hid hfr1
      go_wp2_with fail
      go_ret
      exact ⟨v1, rfl, hfr1.out, hbb⟩

end Go.Proofs.YteefodibpjgicaaGreat

/- The reference of layer 3: nodes that may be, made of any: Good. -/
namespace Go.Proofs.YteefodibpjgicaaGreat
open Go.RowKit
theorem fitN_all {l : List Nd} : FitN l ↔ ∀ x ∈ l, Fit1 x ∧ FitN x.kids := by
  induction l with
  | nil => simp [fitN_nil]
  | cons x r ih => rw [fitN_cons, ih]; simp; exact ⟨fun h => ⟨⟨h.1, h.2.1⟩, h.2.2⟩, fun h => ⟨h.1.1, h.1.2, h.2⟩⟩
theorem fit_merged {l : List Nd} (h : FitN l) (ht : txtN l ≤ 268435456) : FitN (M3.merge l) := by
  have h1 := M3.merge_all (P := fun x => (x.name.size ≤ 268435456 ∧ (∀ a ∈ x.attrs, a.name.size ≤ 268435456 ∧ a.value.size ≤ 268435456) ∧ 1 + x.attrs.length + M3.weight x.kids ≤ 1000000) ∧ FitN x.kids)
    (fun x y hx _ _ _ => by rw [M3.withText_name, M3.withText_attrs, M3.withText_kids]; exact hx) l (fun x hx => by have := fitN_all.1 h x hx; exact ⟨⟨this.1.1, this.1.2.2.1, this.1.2.2.2⟩, this.2⟩)
  have h2 := txtN_merge l
  refine fitN_all.2 (fun x hx => ?_)
  obtain ⟨⟨q1, q2, q3⟩, q4⟩ := h1 x hx
  have := txtN_mem hx
  exact ⟨⟨q1, by omega, q2, q3⟩, q4⟩
theorem fit_goodN (l : List Nd) : Sm30 l → M3.weight l ≤ 1000 → FitN (M3.goodN l) := by
  induction l using Nd.ind with
  | h0 => intro _ _; rw [M3.goodN_nil]; exact fitN_nil
  | h1 k n ats t ks r ih1 ih2 =>
    intro hs hw
    obtain ⟨s1, s2, s3⟩ := sm_cons.1 hs
    rw [M3.weight_cons] at hw
    have hw : 1 + ats.length + M3.weight ks + M3.weight r ≤ 1000 := hw
    rw [M3.goodN_cons, M3.good1_mk]
    refine fitN_cons.2 ?_
    by_cases h : M3.kindN k = 1
    · rw [if_pos h]
      have h1 := M3.goodA_len ats
      have h2 := weight_merge (M3.goodN ks)
      have h3 := good_weight ks
      have h4 := good_txt ks s2
      have h5 := M3.length_le_weight ks
      have h6 := M3.wordN_size n 30 s1.1 (by omega)
      refine ⟨⟨by show (M3.wordN n).size ≤ _; omega, by show (⟨#[]⟩ : ByteArray).size ≤ _; decide, ?_, by show 1 + (M3.goodA ats).length + M3.weight (M3.merge (M3.goodN ks)) ≤ _; omega⟩, fit_merged (ih1 s2 (by omega)) (by omega), ih2 s3 (by omega)⟩
      refine M3.goodA_all ats (fun a ha => ?_)
      have h7 := s1.2.2 a ha
      have h8 := M3.attrN_size a.name 30 h7.1 (by omega)
      have h9 := M3.rightN_size a.value
      exact ⟨by show (M3.attrN a.name).size ≤ _; omega, by show (M3.rightN a.value).size ≤ _; omega⟩
    · rw [if_neg h]
      have h6 := M3.rightN_size t
      have h7 : t.size ≤ 30 := s1.2.1
      refine ⟨⟨by show (⟨#[]⟩ : ByteArray).size ≤ _; decide, by show (M3.rightN t).size ≤ _; omega, fun a ha => (nomatch (show a ∈ ([] : List Att) from ha)), by show 1 + 0 + M3.weight [] ≤ _; rw [M3.weight_nil]; omega⟩, fitN_nil, ih2 s3 (by omega)⟩
/-- Nodes that may be, of any: what 'Good' tells. -/
def gdN (l : List Nd) : List Nd := M3.good (fewN l)
theorem gd_weight (l : List Nd) : M3.weight (gdN l) ≤ 240 :=
  Nat.le_trans (weight_merge _) (Nat.le_trans (good_weight _) (fewN_weight l))
theorem gd_fit (l : List Nd) : FitN (gdN l) := by
  have h1 := fewN_weight l
  have h2 := good_txt (fewN l) (few_sm l)
  have h3 := M3.length_le_weight (fewN l)
  exact fit_merged (fit_goodN _ (few_sm l) (by omega)) (by omega)
theorem gd_may (l : List Nd) : M3.mayE false (gdN l) = 0 := M3.good_may _

set_option maxHeartbeats 2000000 in
theorem ref03Good (S : Nat → Prop) (v : Value) (l : List Nd) (w : World) (hS : ∀ b, S b → b < w.heap.size) (hr : RepN S w v l) (hsz : SzN l) :
    Calls Tryz.prog 17 #[v] w (FreshPost (gdN l) w) := by
  have hF := Lib.hid (ref03Few S v l w hS hr hsz)
  obtain ⟨a, cap, rfl⟩ := hr.slice
  go_enter Tryz.func17, Tryz.ntmps17
  go_wp2_with fail
  refine hF.out.mono ?_
  rintro e w1 ⟨v1, rfl, hm1, hb1⟩
  have hG := Lib.hid (ref03good (M3.weight (fewN l) + 1) _ v1 (fewN l) w1 (by omega) (by have := fewN_weight l; omega) (few_sm l) (fun b h => h.2) hm1.rep)
  obtain ⟨a1, c1, rfl⟩ := hm1.rep.slice
  clear hm1 hF
  go_wp2_with fail
  refine hG.out.mono ?_
  rintro e w2 ⟨v2, rfl, hf2, hb2⟩
  have hb := bt hb1 hb2
  have hf3 := Lib.hid (hf2.base hb1.size)
  obtain ⟨a2, c2, rfl⟩ := hf2.rep.slice
  clear hf2
  go_wp2_with fail
  go_ret
  exact ⟨_, rfl, hf3.out, hb⟩
end Go.Proofs.YteefodibpjgicaaGreat

/- Layer 6: how great nodes are that were made stable. No program in it. -/
namespace Go.Proofs.YteefodibpjgicaaGreat
open Go.RowKit
/-- All texts of nodes, at each depth. -/
def dtN : List Nd → Nat
  | [] => 0
  | .mk _ _ _ t ks :: r => t.size + dtN ks + dtN r
termination_by l => SizeOf.sizeOf l

theorem dt_nil : dtN [] = 0 := by rw [dtN]

theorem dt_cons (x : Nd) (r : List Nd) : dtN (x :: r) = x.text.size + dtN x.kids + dtN r := by cases x; rw [dtN]; rfl

theorem dt_append (a b : List Nd) : dtN (a ++ b) = dtN a + dtN b := by
  induction a with
  | nil => rw [List.nil_append, dt_nil, Nat.zero_add]
  | cons x r ih => rw [List.cons_append, dt_cons, dt_cons, ih]; omega

theorem txt_dt (l : List Nd) : txtN l ≤ dtN l := by
  induction l with
  | nil => exact Nat.zero_le _
  | cons x r ih => rw [txtN_cons, dt_cons]; omega

theorem dt_mem {x : Nd} {l : List Nd} (h : x ∈ l) : x.text.size + dtN x.kids ≤ dtN l := by
  induction l with
  | nil => exact (nomatch h)
  | cons y r ih =>
    rw [dt_cons]
    rcases List.mem_cons.1 h with rfl | h
    · omega
    · have := ih h; omega

theorem dt_filter (q : Nd → Bool) (l : List Nd) : dtN (l.filter q) ≤ dtN l := by
  induction l with
  | nil => exact Nat.le_refl _
  | cons x r ih =>
    cases h : q x
    · rw [List.filter_cons_of_neg (by rw [h]; exact Bool.false_ne_true), dt_cons]; omega
    · rw [List.filter_cons_of_pos h, dt_cons, dt_cons]; omega

theorem weight_filter (q : Nd → Bool) (l : List Nd) : M3.weight (l.filter q) ≤ M3.weight l := by
  induction l with
  | nil => exact Nat.le_refl _
  | cons x r ih =>
    cases h : q x
    · rw [List.filter_cons_of_neg (by rw [h]; exact Bool.false_ne_true), M3.weight_cons]; omega
    · rw [List.filter_cons_of_pos h, M3.weight_cons, M3.weight_cons]; omega

theorem fit_filter (q : Nd → Bool) {l : List Nd} (h : FitN l) : FitN (l.filter q) :=
  fitN_iff.2 (fun x hx => fitN_iff.1 h x (List.mem_filter.1 hx).1)

theorem dt_push (out : List Nd) (x : Nd) : dtN (M3.push out x) ≤ dtN out + (x.text.size + dtN x.kids) := by
  cases h : M3.bareB x
  · rcases List.eq_nil_or_concat out with rfl | ⟨o, y, rfl⟩
    · rw [M3.push_none h, dt_cons, dt_nil]; omega
    · rw [List.concat_eq_append, M3.push_snoc h]
      split
      · rw [dt_append, dt_append, dt_cons, dt_cons, M3.withText_text, M3.withText_kids, cat_size, dt_nil]
        omega
      · rw [dt_append, dt_cons, dt_nil]
        omega
  · rw [M3.push_bare h]; omega

theorem dt_merge (l : List Nd) : dtN (M3.merge l) ≤ dtN l := by
  have key : ∀ (l out : List Nd), dtN (l.foldl M3.push out) ≤ dtN out + dtN l := by
    intro l
    induction l with
    | nil => intro out; exact Nat.le_add_right _ _
    | cons x r ih =>
      intro out
      have h1 := ih (M3.push out x)
      have h2 := dt_push out x
      rw [List.foldl_cons, dt_cons]
      omega
  have := key l []
  rw [dt_nil] at this
  simpa [M3.merge] using this

theorem steadyQ_sizes (l : List Nd) : ∀ q, M3.weight (M6.steadyQ q l) ≤ M3.weight l ∧ dtN (M6.steadyQ q l) ≤ dtN l := by
  induction l using Nd.ind with
  | h0 => intro q; rw [M6.steadyQ_nil]; exact ⟨Nat.le_refl _, Nat.le_refl _⟩
  | h1 k n a t ks r ih1 ih2 =>
    intro q
    obtain ⟨r1, r2⟩ := ih2 q
    obtain ⟨k1, k2⟩ := ih1 (M6.fitsB n)
    have h1 := Nat.le_trans (weight_filter (M6.fitsB n) _) (Nat.le_trans (weight_merge _) k1)
    have h2 := Nat.le_trans (dt_filter (M6.fitsB n) _) (Nat.le_trans (dt_merge _) k2)
    rw [M6.steadyQ_cons, M3.weight_append, dt_append, M3.weight_cons, dt_cons]
    show _ + _ ≤ 1 + a.length + M3.weight ks + M3.weight r ∧ _ + _ ≤ t.size + dtN ks + dtN r
    split
    · unfold M6.oneN
      split
      · rw [M3.weight_cons, M3.weight_nil, dt_cons, dt_nil]
        show 1 + a.length + M3.weight ((M3.merge (M6.steadyQ (M6.fitsB n) ks)).filter (M6.fitsB n)) + 0 + _ ≤ _ ∧ t.size + dtN ((M3.merge (M6.steadyQ (M6.fitsB n) ks)).filter (M6.fitsB n)) + 0 + _ ≤ _
        omega
      · rw [M3.weight_cons, M3.weight_nil, dt_cons, dt_nil]
        show 1 + a.length + M3.weight ks + 0 + _ ≤ _ ∧ t.size + dtN ks + 0 + _ ≤ _
        omega
    · rw [M3.weight_nil, dt_nil]; omega

theorem fit_steadyQ (l : List Nd) : ∀ q, FitN l → dtN l ≤ 268435456 → FitN (M6.steadyQ q l) := by
  induction l using Nd.ind with
  | h0 => intro q _ _; rw [M6.steadyQ_nil]; exact fitN_nil
  | h1 k n a t ks r ih1 ih2 =>
    intro q hf hd
    obtain ⟨f1, f2, f3⟩ := fitN_cons.1 hf
    rw [dt_cons] at hd
    have hd : t.size + dtN ks + dtN r ≤ 268435456 := hd
    have f2 : FitN ks := f2
    rw [M6.steadyQ_cons]
    refine fitN_append.2 ⟨?_, ih2 q f3 (by omega)⟩
    split
    · obtain ⟨k1, k2⟩ := steadyQ_sizes ks (M6.fitsB n)
      have h1 := Nat.le_trans (weight_filter (M6.fitsB n) _) (Nat.le_trans (weight_merge _) k1)
      have h3 := txt_dt (M6.steadyQ (M6.fitsB n) ks)
      refine fitN_cons.2 ⟨?_, ?_, fitN_nil⟩
      · obtain ⟨e1, e2, e3, e4⟩ := f1
        unfold M6.oneN
        split
        · refine ⟨e1, e2, e3, ?_⟩
          have e4 : 1 + a.length + M3.weight ks ≤ 1000000 := e4
          show 1 + a.length + M3.weight ((M3.merge (M6.steadyQ (M6.fitsB n) ks)).filter (M6.fitsB n)) ≤ _
          omega
        · exact ⟨e1, e2, e3, e4⟩
      · unfold M6.oneN
        split
        · show FitN ((M3.merge (M6.steadyQ (M6.fitsB n) ks)).filter (M6.fitsB n))
          exact fit_filter _ (fit_merged (ih1 (M6.fitsB n) f2 (by omega)) (by omega))
        · exact f2
    · exact fitN_nil

theorem steady_sizes (l : List Nd) : M3.weight (M6.steady l) ≤ M3.weight l ∧ dtN (M6.steady l) ≤ dtN l :=
  ⟨Nat.le_trans (weight_merge _) (steadyQ_sizes l _).1, Nat.le_trans (dt_merge _) (steadyQ_sizes l _).2⟩

theorem fit_steady {l : List Nd} (h : FitN l) (hd : dtN l ≤ 268435456) : FitN (M6.steady l) := by
  have h1 := txt_dt (M6.steadyQ (fun _ => true) l)
  have h2 := (steadyQ_sizes l (fun _ => true)).2
  exact fit_merged (fit_steadyQ l _ h hd) (by omega)

theorem dt_goodN (l : List Nd) : Sm30 l → dtN (M3.goodN l) ≤ M3.weight l * 120 := by
  induction l using Nd.ind with
  | h0 => intro _; rw [M3.goodN_nil, dt_nil]; exact Nat.zero_le _
  | h1 k n ats t ks r ih1 ih2 =>
    intro hs
    obtain ⟨s1, s2, s3⟩ := sm_cons.1 hs
    have h2 := ih2 s3
    have h1 := Nat.le_trans (dt_merge (M3.goodN ks)) (ih1 s2)
    rw [M3.goodN_cons, M3.good1_mk, dt_cons, M3.weight_cons]
    have hw : (1 + (Nd.mk k n ats t ks).attrs.length + M3.weight (Nd.mk k n ats t ks).kids + M3.weight r) * 120 = 120 + ats.length * 120 + M3.weight ks * 120 + M3.weight r * 120 := by
      show (1 + ats.length + M3.weight ks + M3.weight r) * 120 = _
      omega
    rw [hw]
    split
    · show 0 + dtN (M3.merge (M3.goodN ks)) + _ ≤ _
      omega
    · have h6 := M3.rightN_size t
      have h7 : t.size ≤ 30 := s1.2.1
      show (M3.rightN t).size + dtN [] + _ ≤ _
      rw [dt_nil]
      omega

theorem dt_gd (l : List Nd) : dtN (gdN l) ≤ 28800 := by
  have h1 := Nat.le_trans (dt_merge _) (dt_goodN (fewN l) (few_sm l))
  have h2 := fewN_weight l
  have h3 : dtN (gdN l) ≤ M3.weight (fewN l) * 120 := h1
  omega
end Go.Proofs.YteefodibpjgicaaGreat

/- Layer 7 by plain definitions: nodes built of tokens; the open elements are the last ones, one in the other. No program in it. -/
namespace Go.Proofs.YteefodibpjgicaaGreat
namespace M7
open M3 (isText withText cat push)
def wk (x : Nd) (ks : List Nd) : Nd := .mk x.kind x.name x.attrs x.text ks
/-- The names of the d innermost last ones, the outermost first. -/
def openN : Nat → List Nd → List ByteArray
  | 0, _ => []
  | d + 1, L => match L.getLast? with | some x => x.name :: openN d x.kids | none => []
/-- Their places. -/
def pathN : Nat → List Nd → List Nat
  | 0, _ => []
  | d + 1, L => match L.getLast? with | some x => (L.length - 1) :: pathN d x.kids | none => []
/-- Where nodes go. -/
def levelN : Nat → List Nd → List Nd
  | 0, L => L
  | d + 1, L => match L.getLast? with | some x => levelN d x.kids | none => []
def okD : Nat → List Nd → Prop
  | 0, _ => True
  | d + 1, L => match L.getLast? with | some x => okD d x.kids | none => False
/-- One more node there. -/
def putN : Nat → Nd → List Nd → List Nd
  | 0, n, L => push L n
  | d + 1, n, L => match L.getLast? with | some x => L.dropLast ++ [wk x (putN d n x.kids)] | none => L

theorem openN_snoc (d : Nat) (A : List Nd) (x : Nd) : openN (d + 1) (A ++ [x]) = x.name :: openN d x.kids := by rw [openN]; simp
theorem pathN_snoc (d : Nat) (A : List Nd) (x : Nd) : pathN (d + 1) (A ++ [x]) = A.length :: pathN d x.kids := by rw [pathN]; simp
theorem levelN_snoc (d : Nat) (A : List Nd) (x : Nd) : levelN (d + 1) (A ++ [x]) = levelN d x.kids := by rw [levelN]; simp
theorem okD_snoc (d : Nat) (A : List Nd) (x : Nd) : okD (d + 1) (A ++ [x]) = okD d x.kids := by rw [okD]; simp
theorem putN_snoc (d : Nat) (n : Nd) (A : List Nd) (x : Nd) : putN (d + 1) n (A ++ [x]) = A ++ [wk x (putN d n x.kids)] := by rw [putN]; simp
theorem openN_len {d : Nat} {L : List Nd} (h : okD d L) : (openN d L).length = d := by
  induction d generalizing L with
  | zero => rfl
  | succ d ih =>
    rcases List.eq_nil_or_concat L with rfl | ⟨A, x, rfl⟩
    · exact h.elim
    · rw [List.concat_eq_append, okD_snoc] at h
      rw [List.concat_eq_append, openN_snoc, List.length_cons, ih h]
theorem openN_take {d n : Nat} {L : List Nd} (h : okD d L) (hn : n ≤ d) : openN n L = (openN d L).take n := by
  induction n generalizing d L with
  | zero => rw [List.take_zero]; rfl
  | succ n ih =>
    obtain ⟨d, rfl⟩ : ∃ e, d = e + 1 := ⟨d - 1, by omega⟩
    rcases List.eq_nil_or_concat L with rfl | ⟨A, x, rfl⟩
    · exact h.elim
    · rw [List.concat_eq_append, okD_snoc] at *
      rw [openN_snoc, openN_snoc, List.take_succ_cons, ih h (by omega)]
/-- What stands on the way stays, whatever goes to its end. -/
theorem put_keeps {d : Nat} {L : List Nd} (x : Nd) (h : okD d L) : okD d (putN d x L) ∧ openN d (putN d x L) = openN d L ∧ (0 < d → (putN d x L).length = L.length) := by
  induction d generalizing L with
  | zero => exact ⟨trivial, rfl, fun h => absurd h (Nat.lt_irrefl _)⟩
  | succ d ih =>
    rcases List.eq_nil_or_concat L with rfl | ⟨A, y, rfl⟩
    · exact h.elim
    · rw [List.concat_eq_append, okD_snoc] at *
      obtain ⟨h1, h2, _⟩ := ih h
      rw [putN_snoc, okD_snoc, openN_snoc, openN_snoc]
      refine ⟨h1, ?_, fun _ => by simp⟩
      show y.name :: openN d (putN d x y.kids) = _
      rw [h2]
theorem put_path {d : Nat} {L : List Nd} (x : Nd) (h : okD d L) : pathN d (putN d x L) = pathN d L := by
  induction d generalizing L with
  | zero => rfl
  | succ d ih =>
    rcases List.eq_nil_or_concat L with rfl | ⟨A, y, rfl⟩
    · exact h.elim
    · rw [List.concat_eq_append, okD_snoc] at *
      rw [putN_snoc, pathN_snoc, pathN_snoc]
      show A.length :: pathN d (putN d x y.kids) = _
      rw [ih h]
theorem put_level {d : Nat} {L : List Nd} (x : Nd) (h : okD d L) : levelN d (putN d x L) = push (levelN d L) x := by
  induction d generalizing L with
  | zero => rfl
  | succ d ih =>
    rcases List.eq_nil_or_concat L with rfl | ⟨A, y, rfl⟩
    · exact h.elim
    · rw [List.concat_eq_append, okD_snoc] at *
      rw [putN_snoc, levelN_snoc, levelN_snoc]
      exact ih h
theorem openN_more {d : Nat} {L A : List Nd} {x : Nd} (h : okD d L) (hl : levelN d L = A ++ [x]) : okD (d + 1) L ∧ openN (d + 1) L = openN d L ++ [x.name] ∧ pathN (d + 1) L = pathN d L ++ [A.length] := by
  induction d generalizing L with
  | zero =>
    have hl : L = A ++ [x] := hl
    subst hl
    rw [okD_snoc, openN_snoc, pathN_snoc]
    exact ⟨trivial, rfl, rfl⟩
  | succ d ih =>
    rcases List.eq_nil_or_concat L with rfl | ⟨B, y, rfl⟩
    · exact h.elim
    · rw [List.concat_eq_append] at *
      rw [okD_snoc] at h
      rw [levelN_snoc] at hl
      obtain ⟨h1, h2, h3⟩ := ih h hl
      rw [okD_snoc, openN_snoc, openN_snoc, pathN_snoc, pathN_snoc]
      exact ⟨h1, by rw [h2]; rfl, by rw [h3]; rfl⟩
/-- An element that goes there is open then. -/
theorem put_open {d : Nat} {L : List Nd} (x : Nd) (h : okD d L) (hk : isText x = false) : okD (d + 1) (putN d x L) ∧ openN (d + 1) (putN d x L) = openN d L ++ [x.name] ∧ pathN (d + 1) (putN d x L) = pathN d L ++ [(levelN d L).length] := by
  obtain ⟨h1, h2, _⟩ := put_keeps x h
  have hb : M3.bareB x = false := by unfold M3.bareB; rw [hk]; rfl
  have hl : levelN d (putN d x L) = levelN d L ++ [x] := by
    rw [put_level x h]
    rcases List.eq_nil_or_concat (levelN d L) with e | ⟨o, y, e⟩
    · rw [e, M3.push_none hb]; rfl
    · rw [e, List.concat_eq_append, M3.push_snoc hb, hk]
      simp
  obtain ⟨q1, q2, q3⟩ := openN_more h1 hl
  exact ⟨q1, by rw [q2, h2], by rw [q3, put_path x h]⟩

def elT (t : Tok) : Nd := .mk 1 t.name t.attrs ⟨#[]⟩ []
def txT (t : Tok) : Nd := .mk 2 ⟨#[]⟩ [] t.text []
def coT (t : Tok) : Nd := .mk 3 ⟨#[]⟩ [] t.text []
/-- How many stay open. -/
def closeAt (o : List ByteArray) (b : ByteArray) : Nat → Nat
  | 0 => 0
  | n + 1 => if M6.closesB (o.getD n ⟨#[]⟩).data.toList b.data.toList then closeAt o b n else n + 1
/-- The innermost one of that name. -/
def endAt (o : List ByteArray) (nm : ByteArray) : Nat → Option Nat
  | 0 => none
  | i + 1 => if (o.getD i ⟨#[]⟩).data.toList = nm.data.toList then some i else endAt o nm i
theorem closeAt_le (o : List ByteArray) (b : ByteArray) (n : Nat) : closeAt o b n ≤ n := by
  induction n with
  | zero => exact Nat.le_refl _
  | succ n ih => rw [closeAt]; split <;> omega
theorem endAt_lt (o : List ByteArray) (nm : ByteArray) (n i : Nat) (h : endAt o nm n = some i) : i < n := by
  induction n with
  | zero => cases h
  | succ n ih =>
    rw [endAt] at h
    split at h
    · cases h; omega
    · have := ih h; omega

structure St where
  L : List Nd
  d : Nat
def step (s : St) (t : Tok) : St :=
  if t.kind = 1 then
    let n := closeAt (openN s.d s.L) t.name s.d
    ⟨putN n (elT t) s.L, if M3.voidB t.name.data.toList then n else n + 1⟩
  else if t.kind = 2 then (match endAt (openN s.d s.L) t.name s.d with | some i => ⟨s.L, i⟩ | none => s)
  else if t.kind = 3 then ⟨putN s.d (txT t) s.L, s.d⟩
  else if t.kind = 4 then ⟨putN s.d (coT t) s.L, s.d⟩
  else s
def St.ok (s : St) : Prop := okD s.d s.L
def run (l : List Tok) : St := l.foldl step ⟨[], 0⟩
def tree (l : List Tok) : List Nd := (run l).L
theorem run_snoc (l : List Tok) (t : Tok) : run (l ++ [t]) = step (run l) t := by unfold run; rw [List.foldl_append]; rfl
end M7
end Go.Proofs.YteefodibpjgicaaGreat

/- Layer 7, the code's way by plain definitions: frames of open elements, and what stands behind the innermost one's kids. No program in it. -/
namespace Go.Proofs.YteefodibpjgicaaGreat
namespace M7
open M3 (isText withText cat push)
def el (y : Nd) (ks : List Nd) : Nd := .mk 1 y.name y.attrs ⟨#[]⟩ ks
/-- The nodes of frames, the outermost first, and of what stands last in the innermost one. -/
def tr : List Nd → List Nd → List Nd
  | [], z => z
  | [x], z => x.kids ++ z
  | x :: y :: r, z => x.kids ++ [el y (tr (y :: r) z)]
def endK (t : List UInt8) : List Nd := if t = [] then [] else [.mk 2 ⟨#[]⟩ [] ⟨t.toArray⟩ []]
def namesF (fs : List Nd) : List ByteArray := (fs.drop 1).map Nd.name

theorem tr_cons (x y : Nd) (r : List Nd) (z : List Nd) : tr (x :: y :: r) z = x.kids ++ [el y (tr (y :: r) z)] := rfl
theorem tr_step (a : Nd) (A : List Nd) (x : Nd) (z : List Nd) : ∃ h, tr (a :: (A ++ [x])) z = a.kids ++ [el h (tr (A ++ [x]) z)] ∧ (∀ x' : Nd, x'.name = x.name → x'.attrs = x.attrs → ∀ z', tr (a :: (A ++ [x'])) z' = a.kids ++ [el h (tr (A ++ [x']) z')]) ∧ h.name = ((A ++ [x]).map Nd.name).headD ⟨#[]⟩ := by
  cases A with
  | nil => exact ⟨x, rfl, fun x' hn ha z' => by show _ ++ [el x' _] = _ ++ [el x _]; unfold el; rw [hn, ha]; rfl, rfl⟩
  | cons c A => exact ⟨c, rfl, fun _ _ _ _ => rfl, rfl⟩

/-- The innermost one's kids, and what stands behind them. -/
theorem tr_in (A : List Nd) (x : Nd) (a b : List Nd) : tr (A ++ [wk x (x.kids ++ a)]) b = tr (A ++ [x]) (a ++ b) := by
  induction A with
  | nil => show (x.kids ++ a) ++ b = x.kids ++ (a ++ b); rw [List.append_assoc]
  | cons c A ih =>
    obtain ⟨h, e1, e2, _⟩ := tr_step c A x (a ++ b)
    have e3 := e2 (wk x (x.kids ++ a)) rfl rfl b
    rw [List.cons_append, List.cons_append, e1, e3, ih]

/-- The innermost one shut. -/
theorem tr_shut (A : List Nd) (x y : Nd) (z : List Nd) : tr (A ++ [wk x (x.kids ++ [el y (y.kids ++ z)])]) [] = tr (A ++ [x, y]) z := by
  induction A with
  | nil => show (x.kids ++ [el y (y.kids ++ z)]) ++ [] = x.kids ++ [el y (y.kids ++ z)]; rw [List.append_nil]
  | cons c A ih =>
    obtain ⟨h, e1, e2, _⟩ := tr_step c A x []
    have e3 := e2 (wk x (x.kids ++ [el y (y.kids ++ z)])) rfl rfl []
    rw [List.cons_append, List.cons_append, e3, ih]
    cases A with
    | nil =>
      have : h = h := rfl
      have e4 : tr ([c] ++ [x]) [] = c.kids ++ [el x (tr [x] [])] := rfl
      have e5 : c.kids ++ [el h (tr ([] ++ [x]) [])] = c.kids ++ [el x (tr [x] [])] := e1.symm.trans e4
      have e6 : el h (tr ([] ++ [x]) []) = el x (tr [x] []) := by
        have := List.append_cancel_left e5
        exact (List.cons.inj this).1
      have e7 : h.name = x.name ∧ h.attrs = x.attrs := by
        unfold el at e6
        injection e6 with _ q1 q2 _ _
        exact ⟨q1, q2⟩
      show c.kids ++ [el h (tr [x, y] z)] = c.kids ++ [el x (tr [x, y] z)]
      unfold el
      rw [e7.1, e7.2]
    | cons b A =>
      have e4 : tr (c :: ((b :: A) ++ [x])) [] = c.kids ++ [el b (tr (b :: (A ++ [x])) [])] := rfl
      have e5 := e1.symm.trans e4
      have e6 : el h (tr ((b :: A) ++ [x]) []) = el b (tr (b :: (A ++ [x])) []) := (List.cons.inj (List.append_cancel_left e5)).1
      have e7 : h.name = b.name ∧ h.attrs = b.attrs := by
        unfold el at e6
        injection e6 with _ q1 q2 _ _
        exact ⟨q1, q2⟩
      show c.kids ++ [el h (tr ((b :: A) ++ [x, y]) z)] = c.kids ++ [el b (tr ((b :: A) ++ [x, y]) z)]
      unfold el
      rw [e7.1, e7.2]

theorem names_snoc (a : Nd) (A : List Nd) (x : Nd) : namesF (a :: A ++ [x]) = namesF (a :: A) ++ [x.name] := by
  unfold namesF
  simp
/-- What frames are of the document's nodes. -/
theorem tr_is (A : List Nd) (x : Nd) (z : List Nd) : okD A.length (tr (A ++ [x]) z) ∧ openN A.length (tr (A ++ [x]) z) = namesF (A ++ [x]) ∧ levelN A.length (tr (A ++ [x]) z) = x.kids ++ z ∧ ∀ n, putN A.length n (tr (A ++ [x]) z) = tr (A ++ [wk x []]) (push (x.kids ++ z) n) := by
  induction A with
  | nil => exact ⟨trivial, rfl, rfl, fun n => by show push (x.kids ++ z) n = [] ++ _; rw [List.nil_append]⟩
  | cons c A ih =>
    obtain ⟨q1, q2, q3, q4⟩ := ih
    obtain ⟨h, e1, e2, e3⟩ := tr_step c A x z
    rw [List.cons_append, e1, List.length_cons, okD_snoc, openN_snoc, levelN_snoc]
    refine ⟨q1, ?_, q3, fun n => ?_⟩
    · show h.name :: openN A.length (tr (A ++ [x]) z) = _
      rw [q2, e3]
      unfold namesF
      cases A with
      | nil => rfl
      | cons b A => rfl
    · rw [putN_snoc, List.cons_append, e2 (wk x []) rfl rfl]
      show c.kids ++ [wk (el h (tr (A ++ [x]) z)) (putN A.length n (tr (A ++ [x]) z))] = _
      rw [q4]; rfl

theorem endK_nil : endK [] = [] := rfl
theorem endK_cons {t : List UInt8} (h : t ≠ []) : endK t = [.mk 2 ⟨#[]⟩ [] ⟨t.toArray⟩ []] := by unfold endK; rw [if_neg h]
/-- The last node of a list is no text. -/
def noTx (l : List Nd) : Prop := ∀ y, l.getLast? = some y → isText y = false
theorem noTx_nil : noTx [] := fun _ h => by cases h
theorem noTx_snoc {l : List Nd} {x : Nd} (h : isText x = false) : noTx (l ++ [x]) := fun y hy => by
  rw [List.getLast?_concat] at hy; cases hy; exact h
/-- More of a text that stands last. -/
theorem push_more {l : List Nd} (h : noTx l) (t s : List UInt8) (x : Nd) (hx : x = .mk 2 ⟨#[]⟩ [] ⟨s.toArray⟩ []) : push (l ++ endK t) x = l ++ endK (t ++ s) := by
  subst hx
  by_cases hs : s = []
  · subst hs
    rw [M3.push_bare (by rw [M3.bareB_iff]; exact ⟨rfl, by rw [M3.nilB_data']; rfl⟩), List.append_nil]
  · have hb : M3.bareB (.mk 2 ⟨#[]⟩ [] ⟨s.toArray⟩ []) = false := by
      cases hq : M3.bareB (.mk 2 ⟨#[]⟩ [] ⟨s.toArray⟩ [])
      · rfl
      · obtain ⟨_, h2⟩ := M3.bareB_iff.1 hq
        rw [M3.nilB_data'] at h2
        exact absurd (List.isEmpty_iff.1 h2) hs
    rw [endK_cons (t := t ++ s) (by simp [hs])]
    by_cases ht : t = []
    · subst ht
      rw [endK_nil, List.append_nil, List.nil_append]
      rcases List.eq_nil_or_concat l with rfl | ⟨B, y, rfl⟩
      · rw [M3.push_none hb]; rfl
      · rw [List.concat_eq_append, M3.push_snoc hb]
        have : isText y = false := h y (by rw [List.concat_eq_append, List.getLast?_concat])
        rw [this]
        simp
    · rw [endK_cons ht, M3.push_snoc hb]
      show (if true && true then _ else _) = _
      rw [if_pos (by rfl)]
      show l ++ [Nd.mk 2 ⟨#[]⟩ [] (cat ⟨t.toArray⟩ ⟨s.toArray⟩) []] = _
      have : cat ⟨t.toArray⟩ ⟨s.toArray⟩ = ⟨(t ++ s).toArray⟩ := by unfold cat; simp
      rw [this]
theorem push_node {l : List Nd} (x : Nd) (h : isText x = false) : push l x = l ++ [x] := by
  have hb : M3.bareB x = false := by unfold M3.bareB; rw [h]; rfl
  rcases List.eq_nil_or_concat l with rfl | ⟨B, y, rfl⟩
  · rw [M3.push_none hb]; rfl
  · rw [List.concat_eq_append, M3.push_snoc hb, h]
    simp

/-! ### Where a name is open -/
def plc (o : List ByteArray) (nm : ByteArray) : Nat → Nat
  | 0 => 0
  | n + 1 => if (o.getD n ⟨#[]⟩).data.toList = nm.data.toList then n + 1 else plc o nm n
theorem plc_end (o : List ByteArray) (nm : ByteArray) (n : Nat) : endAt o nm n = if plc o nm n = 0 then none else some (plc o nm n - 1) := by
  induction n with
  | zero => rfl
  | succ n ih =>
    rw [endAt, plc]
    split
    · simp
    · exact ih
theorem plc_le (o : List ByteArray) (nm : ByteArray) (n : Nat) : plc o nm n ≤ n := by
  induction n with
  | zero => exact Nat.le_refl _
  | succ n ih => rw [plc]; split <;> omega
theorem plc_pre (o p : List ByteArray) (nm : ByteArray) (n : Nat) (h : n ≤ o.length) : plc (o ++ p) nm n = plc o nm n := by
  induction n with
  | zero => rfl
  | succ n ih =>
    rw [plc, plc, ih (by omega)]
    have : (o ++ p).getD n ⟨#[]⟩ = o.getD n ⟨#[]⟩ := by
      rw [List.getD_eq_getElem?_getD, List.getD_eq_getElem?_getD, List.getElem?_append_left (by omega)]
    rw [this]
theorem plc_snoc (o : List ByteArray) (a nm : ByteArray) : plc (o ++ [a]) nm (o.length + 1) = if a.data.toList = nm.data.toList then o.length + 1 else plc o nm o.length := by
  rw [plc, plc_pre o [a] nm _ (Nat.le_refl _)]
  have : (o ++ [a]).getD o.length ⟨#[]⟩ = a := by
    rw [List.getD_eq_getElem?_getD, List.getElem?_append_right (Nat.le_refl _)]
    simp
  rw [this]
theorem close_pre (o p : List ByteArray) (b : ByteArray) (n : Nat) (h : n ≤ o.length) : closeAt (o ++ p) b n = closeAt o b n := by
  induction n with
  | zero => rfl
  | succ n ih =>
    rw [closeAt, closeAt, ih (by omega)]
    have : (o ++ p).getD n ⟨#[]⟩ = o.getD n ⟨#[]⟩ := by
      rw [List.getD_eq_getElem?_getD, List.getD_eq_getElem?_getD, List.getElem?_append_left (by omega)]
    rw [this]
theorem close_snoc (o : List ByteArray) (a b : ByteArray) : closeAt (o ++ [a]) b (o.length + 1) = if M6.closesB a.data.toList b.data.toList = true then closeAt o b o.length else o.length + 1 := by
  rw [closeAt, close_pre o [a] b _ (Nat.le_refl _)]
  have : (o ++ [a]).getD o.length ⟨#[]⟩ = a := by
    rw [List.getD_eq_getElem?_getD, List.getElem?_append_right (Nat.le_refl _)]
    simp
  rw [this]

/-! ### How much there is -/
theorem weight_push (l : List Nd) (x : Nd) : M3.weight (push l x) ≤ M3.weight l + M3.weight [x] := by
  cases hb : M3.bareB x
  · rcases List.eq_nil_or_concat l with rfl | ⟨B, y, rfl⟩
    · rw [M3.push_none hb]; omega
    · rw [List.concat_eq_append, M3.push_snoc hb]
      split
      · rw [M3.weight_append, M3.weight_append, M3.weight_cons, M3.weight_cons, M3.withText_attrs, M3.withText_kids]
        omega
      · rw [M3.weight_append]; omega
  · rw [M3.push_bare hb]; omega
theorem weight_put {d : Nat} {L : List Nd} (x : Nd) (h : okD d L) : M3.weight (putN d x L) ≤ M3.weight L + M3.weight [x] := by
  induction d generalizing L with
  | zero => exact weight_push L x
  | succ d ih =>
    rcases List.eq_nil_or_concat L with rfl | ⟨A, y, rfl⟩
    · exact h.elim
    · rw [List.concat_eq_append, okD_snoc] at *
      rw [putN_snoc, M3.weight_append, M3.weight_append, M3.weight_cons, M3.weight_cons]
      show _ + (1 + y.attrs.length + M3.weight (putN d x y.kids) + _) ≤ _
      have := ih h
      omega
end M7
end Go.Proofs.YteefodibpjgicaaGreat

/- Rows of texts: slices.Index and slices.Contains; a map of lists that a call makes; what closes what. -/
namespace Go.Proofs.YteefodibpjgicaaGreat
open Go.RowKit Go.Maps Go.WideShapes
/-- The slice v reads in w as the texts l. -/
def Txs (S : Nat → Prop) (w : World) (v : Value) (l : List ByteArray) : Prop := Row S w 1 v l.length (l.flatMap fun s => [.string s])

def hasT (s : ByteArray) (l : List ByteArray) : Bool := l.any fun t => s.toList == t.toList

theorem hasT_drop (s : ByteArray) (l : List ByteArray) (i : Nat) (h : i < l.length) : hasT s (l.drop i) = ((s.toList == l[i].toList) || hasT s (l.drop (i + 1))) := by
  rw [List.drop_eq_getElem_cons h]; rfl

set_option maxHeartbeats 1000000 in
theorem slIndex (S : Nat → Prop) (v : Value) (s : ByteArray) (l : List ByteArray) (w : World) (hr : Txs S w v l) :
    Calls Tryz.prog 226 #[v, .string s] w fun e w' => (∃ z : Int, e = .returned (.int .i64 z) ∧ decide (0 ≤ z) = hasT s l) ∧ w = w' := by
  obtain ⟨a, cap, rfl⟩ := Row.slice hr
  obtain ⟨_, hlc, hcm⟩ := Row.len hr
  have h0 : Hid (hasT s l = hasT s (l.drop 0)) := rfl
  obtain ⟨wo, rfl⟩ : ∃ wo : World, wo = w := ⟨_, rfl⟩
  go_enter Tryz.func226, Tryz.ntmps226
  go_wp2_with fail
  go_loopw [5, 8] (fun _ u8 wr => wo = wr ∧ ∃ i : Nat, i ≤ l.length ∧ u8 = .int .i64 (i : Int) ∧ Hid (hasT s l = hasT s (l.drop i))) (fun _ u8 _ => l.length - (intOf u8).toNat)
  case atStart => exact ⟨rfl, 0, by omega, rfl, h0⟩
  case round =>
    obtain ⟨rfl, i, hi, rfl, hv⟩ := hrel
    by_cases hlt : i < l.length
    · obtain ⟨b, off, rfl, _, c0⟩ := Row.atS hr i hlt
      have hd := hv.out.trans (hasT_drop s l i hlt)
      clear hv
      cases ht : (s.toList == l[i].toList)
      · rw [ht, Bool.false_or] at hd
        replace hd := Lib.hid hd
        generalize l[i] = t at *
        go_wp2_with fail
        go_roundw
        case rel => exact ⟨trivial, i + 1, by omega, by go_num, hd⟩
        case measure => exact meas_nat hlt
      · rw [ht, Bool.true_or] at hd
        replace hd := Lib.hid hd
        generalize l[i] = t at *
        go_wp2_with fail
        go_ret
        exact ⟨⟨_, rfl, by rw [hd.out]; simp⟩, rfl⟩
    · obtain rfl : i = l.length := by omega
      have hd := hv.out
      rw [List.drop_length] at hd
      replace hd := Lib.hid hd
      clear hv
      go_wp2_with fail
      go_ret
      exact ⟨⟨_, rfl, by rw [hd.out]; rfl⟩, rfl⟩

theorem slContains (S : Nat → Prop) (v : Value) (s : ByteArray) (l : List ByteArray) (w : World) (hr : Txs S w v l) :
    Calls Tryz.prog 224 #[v, .string s] w fun e w' => e = .returned (.bool (hasT s l)) ∧ w = w' := by
  have hI := Lib.hid (slIndex S v s l w hr)
  obtain ⟨wo, rfl⟩ : ∃ wo : World, wo = w := ⟨_, rfl⟩
  go_enter Tryz.func224, Tryz.ntmps224
  go_wp2_with fail
  refine hI.out.mono ?_
  rintro e w1 ⟨⟨z, rfl, hz⟩, rfl⟩
  replace hz := Lib.hid hz
  go_wp2_with fail
  go_ret
  exact ⟨by rw [← hz.out]; rfl, rfl⟩


/-- An element of the map: itself. -/
abbrev heldR : Value → Option (DataW Value × List MemPlace) := fun v => some (.held v, [])

theorem Txs.keep {S S' : Nat → Prop} {w w' : World} {v : Value} {l : List ByteArray} (h : Txs S w v l) (hk : ∀ b, S b → w'.heap[b]? = w.heap[b]?) (hs : ∀ b, S b → S' b) : Txs S' w' v l := Row.mono (Row.keep h hk) hs

theorem txs_made (S : Nat → Prop) (w : World) (t : TypeId) (l : List ByteArray) (n : Nat) (hn : l.length = n) (h : n ≤ 1000) (hS : S w.heap.size) : Txs S (w.alloc (.cells (l.map Value.string).toArray t)) (.slice (some ⟨w.heap.size, 0, none⟩) n n) l := by
  subst hn
  have e : l.flatMap (fun s => [Value.string s]) = l.map Value.string := (List.map_eq_flatMap).symm
  refine ⟨by rw [e]; simp, some ⟨w.heap.size, 0, none⟩, l.length, rfl, Nat.le_refl _, by omega, (fun h => nomatch h), fun _ => ⟨w.heap.size, 0, rfl, hS, fun j u hj => ?_⟩⟩
  rw [e] at hj
  rw [World.cell?_alloc_at _ _ _ _ rfl]
  simpa using hj

def CloSt (w wa : World) (n : Nat) (D : DataW Value) : Prop := wa.ownsMap Tryz.prog 9 heldR w.heap.size n D ∧ Below w.heap.size w wa ∧ w.heap.size < wa.heap.size

def TxsK (w wa : World) (v : Value) (l : List ByteArray) : Prop := Txs (fun b => w.heap.size < b ∧ b < wa.heap.size) wa v l

theorem clo_step {w wa : World} {n : Nat} {D : DataW Value} (h : CloSt w wa n D) (hn : n < 100) (key : List UInt8) (hk : key.length ≤ 100) (ts : List ByteArray) (k : Nat) (hl : ts.length = k) (hl2 : k ≤ 100) :
    ∃ wb, (Instr.mapUpdate 209 (.map (some w.heap.size)) (.string ⟨key.toArray⟩) (.slice (some ⟨wa.heap.size, 0, none⟩) k k)).run Tryz.prog (wa.alloc (.cells (ts.map Value.string).toArray 9)) = .ok () wb ∧
      CloSt w wb (n + 1) (D.put (.string key) (.held (.slice (some ⟨wa.heap.size, 0, none⟩) k k))) ∧ TxsK w wb (.slice (some ⟨wa.heap.size, 0, none⟩) k k) ts ∧ (∀ v l, TxsK w wa v l → TxsK w wb v l) := by
  obtain ⟨ho, hb, hz⟩ := h
  have ho2 := ho.alloc (.cells (ts.map Value.string).toArray 9)
  obtain ⟨wb, r1, r2, r3⟩ := ho2.update lawS Tryz.underlying209 (by unfold maxLen; omega) (WideMaps.keyOf_string_mk Tryz.underlying9 (s := ⟨key.toArray⟩) (by unfold maxLen; show key.length ≤ _; omega)) (val := .slice (some ⟨wa.heap.size, 0, none⟩) k k) (R := heldR) rfl
  have hsz : (wa.alloc (.cells (ts.map Value.string).toArray 9)).heap.size = wa.heap.size + 1 := by simp
  have hzb := r3.size
  have hb1 := hb.alloc (by omega) (.cells (ts.map Value.string).toArray 9)
  refine ⟨wb, r1, ⟨r2, hb1.grown r3 (by omega) (fun k hk => by cases hk; exact Nat.le_refl _), by omega⟩, ?_, fun v l hv => ?_⟩
  · refine Txs.keep (txs_made (fun b => w.heap.size < b ∧ b < wa.heap.size + 1) wa 9 ts k hl (by omega) ⟨by omega, by omega⟩) (fun b hb' => ?_) (fun b h => ⟨h.1, by omega⟩)
    exact r3.block b (by omega) (by rintro e; cases e; omega)
  · refine Txs.keep hv (fun b hb' => ?_) (fun b h => ⟨h.1, by omega⟩)
    rw [r3.block b (by omega) (by rintro e; cases e; omega)]
    exact Below.heap_alloc wa _ b hb'.2

def cl_p : List ByteArray := [⟨#[98, 108, 111, 99, 107, 113, 117, 111, 116, 101]⟩, ⟨#[100, 105, 118]⟩, ⟨#[104, 49]⟩, ⟨#[104, 50]⟩, ⟨#[104, 114]⟩, ⟨#[108, 105]⟩, ⟨#[111, 108]⟩, ⟨#[112]⟩, ⟨#[112, 114, 101]⟩, ⟨#[116, 97, 98, 108, 101]⟩, ⟨#[117, 108]⟩]
def cl_li : List ByteArray := [⟨#[108, 105]⟩]
def cl_dt : List ByteArray := [⟨#[100, 100]⟩, ⟨#[100, 116]⟩]
def cl_dd : List ByteArray := [⟨#[100, 100]⟩, ⟨#[100, 116]⟩]
def cl_option : List ByteArray := [⟨#[111, 112, 116, 105, 111, 110]⟩]
def cl_td : List ByteArray := [⟨#[116, 100]⟩, ⟨#[116, 114]⟩]
def cl_tr : List ByteArray := [⟨#[116, 114]⟩]

def cloRow (v : Nat → Value) : List (Lit × DataW Value) := [(.string [112], .held (v 0)), (.string [108, 105], .held (v 1)), (.string [100, 116], .held (v 2)), (.string [100, 100], .held (v 3)), (.string [111, 112, 116, 105, 111, 110], .held (v 4)), (.string [116, 100], .held (v 5)), (.string [116, 114], .held (v 6))]
/-- Block b is the map of what closes what. -/
def Clo (w : World) (b : Nat) : Prop := ∃ v : Nat → Value, w.ownsMap Tryz.prog 9 heldR b 7 (rowD (cloRow v) (.map [])) ∧ Txs (fun b => b < w.heap.size) w (v 0) cl_p ∧ Txs (fun b => b < w.heap.size) w (v 1) cl_li ∧ Txs (fun b => b < w.heap.size) w (v 2) cl_dt ∧ Txs (fun b => b < w.heap.size) w (v 3) cl_dd ∧ Txs (fun b => b < w.heap.size) w (v 4) cl_option ∧ Txs (fun b => b < w.heap.size) w (v 5) cl_td ∧ Txs (fun b => b < w.heap.size) w (v 6) cl_tr

set_option maxHeartbeats 4000000 in
theorem modClosers (w : World) : Calls Tryz.prog 225 #[] w fun e w' => ∃ b, e = .returned (.map (some b)) ∧ Clo w' b ∧ Below w.heap.size w w' := by
  have b0 := (Below.refl w.heap.size w).alloc (Nat.le_refl _) (.map #[] 0)
  have c0 : CloSt w (w.alloc (.map #[] 0)) 0 (.map []) := ⟨World.ownsMap_made w Tryz.prog 9 heldR, b0, by simp⟩
  have hmm := @run_makeMap Tryz.prog 209 w
  clear b0
  generalize w.alloc (.map #[] 0) = w0 at *
  obtain ⟨w1, r1, c1, t1, k1⟩ := clo_step c0 (by decide) [112] (by decide) cl_p 11 rfl (by decide)
  simp only [cl_p, List.map_cons, List.map_nil] at r1
  obtain ⟨w2, r2, c2, t2, k2⟩ := clo_step c1 (by decide) [108, 105] (by decide) cl_li 1 rfl (by decide)
  simp only [cl_li, List.map_cons, List.map_nil] at r2
  obtain ⟨w3, r3, c3, t3, k3⟩ := clo_step c2 (by decide) [100, 116] (by decide) cl_dt 2 rfl (by decide)
  simp only [cl_dt, List.map_cons, List.map_nil] at r3
  obtain ⟨w4, r4, c4, t4, k4⟩ := clo_step c3 (by decide) [100, 100] (by decide) cl_dd 2 rfl (by decide)
  simp only [cl_dd, List.map_cons, List.map_nil] at r4
  obtain ⟨w5, r5, c5, t5, k5⟩ := clo_step c4 (by decide) [111, 112, 116, 105, 111, 110] (by decide) cl_option 1 rfl (by decide)
  simp only [cl_option, List.map_cons, List.map_nil] at r5
  obtain ⟨w6, r6, c6, t6, k6⟩ := clo_step c5 (by decide) [116, 100] (by decide) cl_td 2 rfl (by decide)
  simp only [cl_td, List.map_cons, List.map_nil] at r6
  obtain ⟨w7, r7, c7, t7, k7⟩ := clo_step c6 (by decide) [116, 114] (by decide) cl_tr 1 rfl (by decide)
  simp only [cl_tr, List.map_cons, List.map_nil] at r7
  have q0 := k7 _ _ (k6 _ _ (k5 _ _ (k4 _ _ (k3 _ _ (k2 _ _ (t1))))))
  have q1 := k7 _ _ (k6 _ _ (k5 _ _ (k4 _ _ (k3 _ _ (t2)))))
  have q2 := k7 _ _ (k6 _ _ (k5 _ _ (k4 _ _ (t3))))
  have q3 := k7 _ _ (k6 _ _ (k5 _ _ (t4)))
  have q4 := k7 _ _ (k6 _ _ (t5))
  have q5 := k7 _ _ (t6)
  have q6 := t7
  have hz := c7.2.2
  have hB := Lib.hid c7.2.1
  have hC : Hid (Clo w7 w.heap.size) := Lib.hid ⟨fun i => match i with | 0 => .slice (some ⟨w0.heap.size, 0, none⟩) 11 11 | 1 => .slice (some ⟨w1.heap.size, 0, none⟩) 1 1 | 2 => .slice (some ⟨w2.heap.size, 0, none⟩) 2 2 | 3 => .slice (some ⟨w3.heap.size, 0, none⟩) 2 2 | 4 => .slice (some ⟨w4.heap.size, 0, none⟩) 1 1 | 5 => .slice (some ⟨w5.heap.size, 0, none⟩) 2 2 | 6 => .slice (some ⟨w6.heap.size, 0, none⟩) 1 1 | _ => undef, c7.1, Txs.keep q0 (fun _ _ => rfl) (fun b h => h.2), Txs.keep q1 (fun _ _ => rfl) (fun b h => h.2), Txs.keep q2 (fun _ _ => rfl) (fun b h => h.2), Txs.keep q3 (fun _ _ => rfl) (fun b h => h.2), Txs.keep q4 (fun _ _ => rfl) (fun b h => h.2), Txs.keep q5 (fun _ _ => rfl) (fun b h => h.2), Txs.keep q6 (fun _ _ => rfl) (fun b h => h.2)⟩
  clear c0 c1 c2 c3 c4 c5 c6 c7 t1 t2 t3 t4 t5 t6 t7 k1 k2 k3 k4 k5 k6 k7 q0 q1 q2 q3 q4 q5 q6
  go_enter Tryz.func225, Tryz.ntmps225
  go_wp2
  go_ret
  exact ⟨_, rfl, hC.out, hB.out⟩

def closedT (o : List UInt8) : List ByteArray :=
  if o = [112] then cl_p else if o = [108, 105] then cl_li else if o = [100, 116] then cl_dt else if o = [100, 100] then cl_dd else if o = [111, 112, 116, 105, 111, 110] then cl_option else if o = [116, 100] then cl_td else if o = [116, 114] then cl_tr else []
theorem closedT_map (o : List UInt8) : closedT o = (M6.closedL o).map fun l => ⟨l.toArray⟩ := by
  unfold closedT M6.closedL
  by_cases h_p : o = [112]
  · subst h_p; rfl
  by_cases h_li : o = [108, 105]
  · subst h_li; rfl
  by_cases h_dt : o = [100, 116]
  · subst h_dt; rfl
  by_cases h_dd : o = [100, 100]
  · subst h_dd; rfl
  by_cases h_option : o = [111, 112, 116, 105, 111, 110]
  · subst h_option; rfl
  by_cases h_td : o = [116, 100]
  · subst h_td; rfl
  by_cases h_tr : o = [116, 114]
  · subst h_tr; rfl
  simp only [h_p, h_li, h_dt, h_dd, h_option, h_td, h_tr, if_false, or_self]
  rfl

theorem hasT_map (s : ByteArray) (l : List (List UInt8)) : hasT s (l.map fun x => ⟨x.toArray⟩) = l.contains s.data.toList := by
  induction l with
  | nil => rfl
  | cons x r ih =>
    rw [List.map_cons, List.contains_cons, ← ih]
    show ((s.toList == (⟨x.toArray⟩ : ByteArray).toList) || hasT s _) = _
    rw [Lib.toList_data, Lib.toList_data]

theorem hasT_closed (s : ByteArray) (o : List UInt8) : hasT s (closedT o) = M6.closesB o s.data.toList := by
  rw [closedT_map, hasT_map]; rfl

theorem clo_look {w : World} {b : Nat} (h : Clo w b) (s : ByteArray) (hs : s.size ≤ 9223372036854775807) :
    ∃ v, (Instr.lookup 209 (.map (some b)) (.string s) false).run Tryz.prog w = .ok v w ∧ Txs (fun b => b < w.heap.size) w v (closedT s.data.toList) := by
  obtain ⟨v, ho, t0, t1, t2, t3, t4, t5, t6⟩ := h
  obtain ⟨x, ps, hr, hx⟩ := ho.lookup lawS Tryz.underlying209 (z := .slice none 0 0) (Tryz.zeroValue92 _) (R := heldR) rfl (WideMaps.keyOf_string_mk Tryz.underlying9 (s := s) (by unfold maxLen; omega))
  refine ⟨x, hr, ?_⟩
  have hx1 : DataW.held x = (rowD (cloRow v) (.map [])).atKey (.string s.data.toList) (.held (.slice none 0 0)) := by
    have := hx
    simp only [heldR, Option.some.injEq, Prod.mk.injEq] at this
    exact this.1
  have hk : ∀ p ∈ cloRow v, WideAt.IsKeyLit p.1 := by
    intro p hp
    simp only [cloRow, List.mem_cons, List.not_mem_nil, or_false] at hp
    rcases hp with rfl | rfl | rfl | rfl | rfl | rfl | rfl <;> exact trivial
  have hd : (cloRow v).Pairwise (fun p q => p.1 ≠ q.1) := by simp [cloRow]
  have hat := fun p hp => rowD_at (cloRow v) (.map []) (.held (.slice none 0 0)) p isMap_empty hk hd hp
  unfold closedT
  by_cases h_p : s.data.toList = [112]
  · have hp := hat (.string [112], .held (v 0)) (by simp [cloRow])
    rw [h_p, hp] at hx1
    cases hx1
    rw [h_p]
    exact t0
  by_cases h_li : s.data.toList = [108, 105]
  · have hp := hat (.string [108, 105], .held (v 1)) (by simp [cloRow])
    rw [h_li, hp] at hx1
    cases hx1
    rw [h_li]
    exact t1
  by_cases h_dt : s.data.toList = [100, 116]
  · have hp := hat (.string [100, 116], .held (v 2)) (by simp [cloRow])
    rw [h_dt, hp] at hx1
    cases hx1
    rw [h_dt]
    exact t2
  by_cases h_dd : s.data.toList = [100, 100]
  · have hp := hat (.string [100, 100], .held (v 3)) (by simp [cloRow])
    rw [h_dd, hp] at hx1
    cases hx1
    rw [h_dd]
    exact t3
  by_cases h_option : s.data.toList = [111, 112, 116, 105, 111, 110]
  · have hp := hat (.string [111, 112, 116, 105, 111, 110], .held (v 4)) (by simp [cloRow])
    rw [h_option, hp] at hx1
    cases hx1
    rw [h_option]
    exact t4
  by_cases h_td : s.data.toList = [116, 100]
  · have hp := hat (.string [116, 100], .held (v 5)) (by simp [cloRow])
    rw [h_td, hp] at hx1
    cases hx1
    rw [h_td]
    exact t5
  by_cases h_tr : s.data.toList = [116, 114]
  · have hp := hat (.string [116, 114], .held (v 6)) (by simp [cloRow])
    rw [h_tr, hp] at hx1
    cases hx1
    rw [h_tr]
    exact t6
  · rw [rowD_other (cloRow v) _ _ _ (by intro p hp; simp only [cloRow, List.mem_cons, List.not_mem_nil, or_false] at hp; rcases hp with rfl | rfl | rfl | rfl | rfl | rfl | rfl <;> (intro e; simp only [Lit.string.injEq] at e; exact absurd e.symm (by assumption)))] at hx1
    have e : x = .slice none 0 0 := by cases hx1; rfl
    rw [e, if_neg h_p, if_neg h_li, if_neg h_dt, if_neg h_dd, if_neg h_option, if_neg h_td, if_neg h_tr]
    exact Row.nil _ _ _

set_option maxHeartbeats 1000000 in
theorem modCloses (o b : ByteArray) (w : World) (ho : o.size ≤ 9223372036854775807) : Calls Tryz.prog 219 #[.string o, .string b] w fun e w' => e = .returned (.bool (M6.closesB o.data.toList b.data.toList)) ∧ Below w.heap.size w w' := by
  have hC := Lib.hid (modClosers w)
  have hL := Lib.hid (fun (w1 : World) (m : Nat) (h : Clo w1 m) => clo_look h o ho)
  rw [← hasT_closed]
  obtain ⟨wo, rfl⟩ : ∃ wo : World, wo = w := ⟨_, rfl⟩
  go_enter Tryz.func219, Tryz.ntmps219
  go_wp2_with fail
  refine hC.out.mono ?_
  rintro e w1 ⟨m, rfl, hc, hb⟩
  obtain ⟨v, r, ht⟩ := hL.out w1 m hc
  have hK := Lib.hid (slContains _ v b _ w1 ht)
  go_wp2_with fail
  refine hK.out.mono ?_
  rintro e w2 ⟨rfl, rfl⟩
  go_wp2_with fail
  go_ret
  exact ⟨rfl, hb⟩

end Go.Proofs.YteefodibpjgicaaGreat

/- Package build: what a builder is in memory: its block, its text, its open elements each with its kids, its map; and what a step of it may turn. -/
namespace Go.Proofs.YteefodibpjgicaaGreat
open Go.RowKit Go.Maps
/-- An open element in memory. -/
structure FV where
  x : Nd
  va : Value
  vk : Value
  nx : Nat
def FV.cells (f : FV) : List Value := f.x.cells f.va f.vk ++ [.int .i64 (f.nx : Int)]
def cellsF (fs : List FV) : List Value := fs.flatMap FV.cells
theorem cellsF_append (a b : List FV) : cellsF (a ++ b) = cellsF a ++ cellsF b := by simp [cellsF]
theorem cellsF_one (f : FV) : cellsF [f] = f.cells := by simp [cellsF]
theorem cellsF_len (l : List FV) : (cellsF l).length = l.length * 6 := by
  induction l with
  | nil => rfl
  | cons a r ih => simp only [cellsF, List.flatMap_cons, List.length_append, List.length_cons] at ih ⊢; rw [ih]; simp [FV.cells]; omega
theorem cellsF_last (A : List FV) (f : FV) (j : Nat) (hj : j < 6) : (cellsF (A ++ [f]))[A.length * 6 + j]? = f.cells[j]? := by
  rw [cellsF_append, cellsF_one, List.getElem?_append_right (by rw [cellsF_len]; omega), cellsF_len]
  congr 1
  omega

/-- The blocks that a builder writes to, by their parts. -/
def roleB (g mb : Nat) (vo vt : Value) (fs : List FV) : Nat → Option Nat
  | 0 => some g
  | 1 => some mb
  | 2 => vo.ownBlock
  | 3 => vt.ownBlock
  | i + 4 => (fs[i]?).bind fun f => f.vk.ownBlock

/-- Blocks of F that it does not write to. -/
def idleB (F : Nat → Prop) (g mb : Nat) (vo vt : Value) (fs : List FV) (b : Nat) : Prop := F b ∧ ∀ i, roleB g mb vo vt fs i ≠ some b

/-- A builder in block g, all of it in blocks of F. -/
structure Bld (F : Nat → Prop) (w : World) (g mb : Nat) (vo vt pt : Value) (fs : List FV) (tx : List UInt8) (n : Nat) (D : DataW Unit) : Prop where
  box : Box w g 193 [vo, pt, vt, .map (some mb)]
  ptr : pt = .pointer none ∨ pt = .pointer (some ⟨g, 1, none⟩)
  row : w.ownsRow 0 189 6 vo fs.length (cellsF fs)
  text : w.ownsRowF 0 5 1 vt tx.length (u8s tx)
  map : w.ownsMap Tryz.prog 9 (plainElem (H := Unit) Tryz.prog 3) mb n D
  kids : ∀ f ∈ fs, ∃ xs, w.ownsRow 0 41 5 f.vk f.x.kids.length xs ∧ RepC (idleB F g mb vo vt fs) w xs f.x.kids
  atts : ∀ f ∈ fs, Row (idleB F g mb vo vt fs) w 2 f.va f.x.attrs.length (cellsA f.x.attrs)
  inj : ∀ i j c, roleB g mb vo vt fs i = some c → roleB g mb vo vt fs j = some c → i = j
  sub : ∀ i c, roleB g mb vo vt fs i = some c → F c
  lt : ∀ b, F b → b < w.heap.size

/-- F, and what has been made since. -/
def grw (F : Nat → Prop) (w w' : World) (b : Nat) : Prop := F b ∨ (w.heap.size ≤ b ∧ b < w'.heap.size)
/-- Outside of F nothing has turned. -/
structure Out (F : Nat → Prop) (w w' : World) : Prop where
  os : w'.os = w.os
  tape : w'.tape = w.tape
  output : w'.output = w.output
  size : w.heap.size ≤ w'.heap.size
  block : ∀ b, b < w.heap.size → ¬ F b → w'.heap[b]? = w.heap[b]?

theorem Out.refl (F : Nat → Prop) (w : World) : Out F w w := ⟨rfl, rfl, rfl, Nat.le_refl _, fun _ _ _ => rfl⟩
theorem Out.trans {F : Nat → Prop} {w w1 w2 : World} (h : Out F w w1) (k : Out (grw F w w1) w1 w2) : Out F w w2 :=
  ⟨k.os.trans h.os, k.tape.trans h.tape, k.output.trans h.output, Nat.le_trans h.size k.size, fun b hb hF => (k.block b (Nat.lt_of_lt_of_le hb h.size) (fun e => e.elim hF (fun e => by omega))).trans (h.block b hb hF)⟩
theorem Out.below {F : Nat → Prop} {w w1 w2 : World} (h : Out F w w1) (k : Below w1.heap.size w1 w2) : Out F w w2 :=
  ⟨k.os.trans h.os, k.tape.trans h.tape, k.output.trans h.output, Nat.le_trans h.size k.size, fun b hb hF => (k.block b (Nat.lt_of_lt_of_le hb h.size)).trans (h.block b hb hF)⟩
theorem grw_grw {F : Nat → Prop} {w w1 w2 : World} (h1 : w.heap.size ≤ w1.heap.size) (h2 : w1.heap.size ≤ w2.heap.size) (b : Nat) : grw (grw F w w1) w1 w2 b ↔ grw F w w2 b := by
  unfold grw
  constructor
  · rintro ((h | h) | h)
    · exact .inl h
    · exact .inr ⟨h.1, by omega⟩
    · exact .inr ⟨by omega, h.2⟩
  · rintro (h | h)
    · exact .inl (.inl h)
    · by_cases hb : b < w1.heap.size
      · exact .inl (.inr ⟨h.1, hb⟩)
      · exact .inr ⟨by omega, h.2⟩

section
variable {F F' : Nat → Prop} {w w' : World} {g mb : Nat} {vo vt pt : Value} {fs : List FV} {tx : List UInt8} {n : Nat} {D : DataW Unit}
theorem own_keepW {B : Nat} {e : TypeId} {k m : Nat} {v : Value} {xs : List Value} (h : w.ownsRow B e k v m xs) (hk : ∀ c, v.ownBlock = some c → w'.heap[c]? = w.heap[c]?) : w'.ownsRow B e k v m xs := by
  refine ⟨h.1, ?_⟩
  rcases h.2 with h1 | ⟨c, cap, cur, rfl, h1, h2, h3⟩
  · exact .inl h1
  · exact .inr ⟨c, cap, cur, rfl, h1, (hk c rfl).trans h2, h3⟩
theorem ownF_keepW {B : Nat} {e : TypeId} {k m : Nat} {v : Value} {xs : List Value} (h : w.ownsRowF B e k v m xs) (hk : ∀ c, v.ownBlock = some c → w'.heap[c]? = w.heap[c]?) : w'.ownsRowF B e k v m xs := by
  refine ⟨h.1, ?_⟩
  rcases h.2 with h1 | ⟨c, cap, cur, fz, rfl, h1, h2, h3⟩
  · exact .inl h1
  · exact .inr ⟨c, cap, cur, fz, rfl, h1, (hk c rfl).trans h2, h3⟩
theorem map_keepW {k : TypeId} {R : Value → Option (DataW Unit × List MemPlace)} {b m : Nat} {E : DataW Unit} (h : w.ownsMap Tryz.prog k R b m E) (hk : w'.heap[b]? = w.heap[b]?) : w'.ownsMap Tryz.prog k R b m E := by
  obtain ⟨es, clock, h1, h2⟩ := h
  exact ⟨es, clock, hk.trans h1, h2⟩

theorem Bld.role_lt (h : Bld F w g mb vo vt pt fs tx n D) {i c : Nat} (hi : roleB g mb vo vt fs i = some c) : c < w.heap.size := h.lt c (h.sub i c hi)
theorem Bld.kid_role {i : Nat} {f : FV} (hf : fs[i]? = some f) : roleB g mb vo vt fs (i + 4) = f.vk.ownBlock := by
  show (fs[i]?).bind _ = _
  rw [hf]; rfl

/-- It stays where all of it stays; F may grow. -/
theorem Bld.keep (h : Bld F w g mb vo vt pt fs tx n D) (hF : ∀ b, F b → F' b) (hlt : ∀ b, F' b → b < w'.heap.size) (hk : ∀ b, F b → w'.heap[b]? = w.heap[b]?) : Bld F' w' g mb vo vt pt fs tx n D := by
  have hi : ∀ b, idleB F g mb vo vt fs b → idleB F' g mb vo vt fs b := fun b hb => ⟨hF b hb.1, hb.2⟩
  have hr : ∀ i c, roleB g mb vo vt fs i = some c → w'.heap[c]? = w.heap[c]? := fun i c e => hk c (h.sub i c e)
  refine ⟨h.box.keep (hr 0 g rfl), h.ptr, own_keepW h.row (fun c e => hr 2 c e), ownF_keepW h.text (fun c e => hr 3 c e), map_keepW h.map (hr 1 mb rfl), fun f hf => ?_, fun f hf => ?_, h.inj, fun i c e => hF c (h.sub i c e), hlt⟩
  · obtain ⟨xs, h1, h2⟩ := h.kids f hf
    obtain ⟨i, hfi⟩ := List.mem_iff_getElem?.1 hf
    refine ⟨xs, own_keepW h1 (fun c e => hr (i + 4) c (by rw [Bld.kid_role hfi]; exact e)), RepC.mono hi _ _ (RepC.keep (fun b hb => hk b hb.1) _ _ h2)⟩
  · exact ((h.atts f hf).keep (fun b hb => hk b hb.1)).mono hi
theorem Bld.below (h : Bld F w g mb vo vt pt fs tx n D) (hb : Below w.heap.size w w') : Bld F w' g mb vo vt pt fs tx n D :=
  h.keep (fun _ h => h) (fun b hb' => Nat.lt_of_lt_of_le (h.lt b hb') hb.size) (fun b hb' => hb.block b (h.lt b hb'))
theorem Bld.grow (h : Bld F w g mb vo vt pt fs tx n D) (hb : Below w.heap.size w w') : Bld (grw F w w') w' g mb vo vt pt fs tx n D :=
  h.keep (fun _ h => .inl h) (fun b hb' => hb'.elim (fun e => Nat.lt_of_lt_of_le (h.lt b e) hb.size) (fun e => e.2)) (fun b hb' => hb.block b (h.lt b hb'))
theorem Bld.drew (h : Bld F w g mb vo vt pt fs tx n D) : Bld F w.drew g mb vo vt pt fs tx n D := h.keep (fun _ h => h) h.lt (fun _ _ => rfl)
theorem Bld.iff (h : Bld F w g mb vo vt pt fs tx n D) (hF : ∀ b, F b ↔ F' b) : Bld F' w g mb vo vt pt fs tx n D := h.keep (fun b => (hF b).1) (fun b hb => h.lt b ((hF b).2 hb)) (fun _ _ => rfl)

/-- The row of open elements, its slice. -/
theorem Bld.open_slice (h : Bld F w g mb vo vt pt fs tx n D) (hne : fs ≠ []) : ∃ go cap, vo = .slice (some ⟨go, 0, none⟩) fs.length cap ∧ fs.length ≤ cap ∧ cap ≤ 9223372036854775807 ∧ ∀ j u, (cellsF fs)[j]? = some u → w.cell? ⟨go, j, none⟩ = some u := by
  have hc := fun c hc => h.row.cells (g := c) hc
  rcases h.row.2 with ⟨_, h0⟩ | ⟨go, cap, cur, hv, _, h2, h3, h4, _⟩
  · exact absurd (List.eq_nil_of_length_eq_zero h0) hne
  · subst hv
    unfold maxLen at h4
    refine ⟨go, cap, rfl, h3, by omega, fun j u hu => ?_⟩
    have h5 := hc go rfl j u hu
    rwa [add_plain', Nat.zero_add] at h5
end
set_option maxHeartbeats 2000000 in
set_option maxRecDepth 100000 in
theorem bInner {w : World} {g go m cap : Nat} (k0 : w.cell? ⟨g, 0, none⟩ = some (.slice (some ⟨go, 0, none⟩) (m + 1) cap)) (hA : m ≤ 1000000) :
    Calls Tryz.prog 220 #[.pointer (some ⟨g, 0, none⟩)] w fun e w' => e = .returned (.pointer (some ⟨go, m * 6, none⟩)) ∧ w' = w.drew := by
  have hA0 : (0 : Int) ≤ (m : Int) := by omega
  have hA1 : (m : Int) < (m : Int) + 1 := by omega
  go_enter Tryz.func220, Tryz.ntmps220
  go_wp2_with fail
  go_region
  go_wp2_with fail
  go_ret
  exact ⟨rfl, rfl⟩

/-! ### One of its blocks turned -/
theorem turn_inj {r r' : Nat → Option Nat} {k z : Nat} (hinj : ∀ i j c, r i = some c → r j = some c → i = j) (hlt : ∀ i c, r i = some c → c < z) (ho : ∀ i, i ≠ k → r' i = r i) (hk : ∀ c, r' k = some c → r k = some c ∨ z ≤ c) : ∀ i j c, r' i = some c → r' j = some c → i = j := by
  intro i j c hi hj
  by_cases e1 : i = k
  · by_cases e2 : j = k
    · omega
    · rw [ho j e2] at hj
      rw [e1] at hi
      rcases hk c hi with h | h
      · exact e1.trans (hinj k j c h hj)
      · have := hlt j c hj; omega
  · by_cases e2 : j = k
    · rw [ho i e1] at hi
      rw [e2] at hj
      rcases hk c hj with h | h
      · exact (hinj i k c hi h).trans e2.symm
      · have := hlt i c hi; omega
    · rw [ho i e1] at hi
      rw [ho j e2] at hj
      exact hinj i j c hi hj
theorem turn_idle {r r' : Nat → Option Nat} {k z b : Nat} (ho : ∀ i, i ≠ k → r' i = r i) (hk : ∀ c, r' k = some c → r k = some c ∨ z ≤ c) (hb : b < z) (h : ∀ i, r i ≠ some b) : ∀ i, r' i ≠ some b := by
  intro i e
  by_cases e1 : i = k
  · rw [e1] at e
    rcases hk b e with h' | h'
    · exact h k h'
    · omega
  · rw [ho i e1] at e
    exact h i e
theorem turn_sub {F : Nat → Prop} {r r' : Nat → Option Nat} {k : Nat} {w w' : World} (hsub : ∀ i c, r i = some c → F c) (ho : ∀ i, i ≠ k → r' i = r i) (hk : ∀ c, r' k = some c → r k = some c ∨ w.heap.size ≤ c) (hlt : ∀ c, r' k = some c → c < w'.heap.size) : ∀ i c, r' i = some c → grw F w w' c := by
  intro i c e
  by_cases e1 : i = k
  · rw [e1] at e
    rcases hk c e with h | h
    · exact .inl (hsub k c h)
    · exact .inr ⟨h, hlt c e⟩
  · rw [ho i e1] at e
    exact .inl (hsub i c e)
theorem grw_lt {F : Nat → Prop} {w w' : World} (hlt : ∀ b, F b → b < w.heap.size) (hz : w.heap.size ≤ w'.heap.size) : ∀ b, grw F w w' b → b < w'.heap.size := fun b h => h.elim (fun h => Nat.lt_of_lt_of_le (hlt b h) hz) (fun h => h.2)

theorem role_snoc (g mb : Nat) (vo vt : Value) (A : List FV) (f f' : FV) : ∀ i, i ≠ A.length + 4 → roleB g mb vo vt (A ++ [f']) i = roleB g mb vo vt (A ++ [f]) i := by
  intro i hi
  match i with
  | 0 | 1 | 2 | 3 => rfl
  | i + 4 =>
    show ((A ++ [f'])[i]?).bind _ = ((A ++ [f])[i]?).bind _
    congr 1
    rw [List.getElem?_append, List.getElem?_append]
    split
    · rfl
    · rw [List.getElem?_eq_none (by simp; omega), List.getElem?_eq_none (by simp; omega)]
theorem role_last (g mb : Nat) (vo vt : Value) (A : List FV) (f : FV) : roleB g mb vo vt (A ++ [f]) (A.length + 4) = f.vk.ownBlock := by
  show ((A ++ [f])[A.length]?).bind _ = _
  rw [List.getElem?_append_right (Nat.le_refl _), Nat.sub_self]
  rfl

/-- What is idle stays so, and as it is. -/
def Carry (I I' : Nat → Prop) (w w' : World) : Prop := ∀ b, I b → I' b ∧ w'.heap[b]? = w.heap[b]?
theorem Carry.rep {I I' : Nat → Prop} {w w' : World} (h : Carry I I' w w') {x : Nd} {va vk : Value} (hr : RepV I w x va vk) : RepV I' w' x va vk := (hr.keep (fun b hb => (h b hb).2)).mono (fun b hb => (h b hb).1)
theorem Carry.trans {I I' I'' : Nat → Prop} {w w' w'' : World} (h : Carry I I' w w') (k : Carry I' I'' w' w'') : Carry I I'' w w'' := fun b hb => ⟨(k b (h b hb).1).1, (k b (h b hb).1).2.trans (h b hb).2⟩

section
variable {F F' : Nat → Prop} {w w' : World} {g mb : Nat} {vo vt pt : Value} {fs : List FV} {tx : List UInt8} {n : Nat} {D : DataW Unit}
theorem Bld.carry_below (h : Bld F w g mb vo vt pt fs tx n D) (hb : Below w.heap.size w w') : Carry (idleB F g mb vo vt fs) (idleB (grw F w w') g mb vo vt fs) w w' := fun b hi => ⟨⟨.inl hi.1, hi.2⟩, hb.block b (h.lt b hi.1)⟩

/-- One more node in the innermost one. -/
theorem Bld.kid {A : List FV} {f : FV} {go cap gg c2 : Nat} {x : Nd} {va vk : Value} {xs : List Value} {w2 : World} (h : Bld F w g mb vo vt pt (A ++ [f]) tx n D) (hvo : vo = .slice (some ⟨go, 0, none⟩) (A.length + 1) cap)
    (hx : RepV (idleB F g mb vo vt (A ++ [f])) w x va vk) (hrep : RepC (idleB F g mb vo vt (A ++ [f])) w xs f.x.kids) (hgrow : w.grownBy w2 f.vk.ownBlock)
    (hown : w2.ownsRow 0 41 5 (.slice (some ⟨gg, 0, none⟩) (f.x.kids.length + 1) c2) (f.x.kids.length + 1) (xs ++ x.cells va vk)) (hat : f.vk.ownBlock = some gg ∨ w.heap.size ≤ gg) :
    Bld (grw F w (w2.setCell ⟨go, A.length * 6 + 4, none⟩ (.slice (some ⟨gg, 0, none⟩) (f.x.kids.length + 1) c2))) (w2.setCell ⟨go, A.length * 6 + 4, none⟩ (.slice (some ⟨gg, 0, none⟩) (f.x.kids.length + 1) c2)) g mb vo vt pt (A ++ [⟨M7.wk f.x (f.x.kids ++ [x]), f.va, .slice (some ⟨gg, 0, none⟩) (f.x.kids.length + 1) c2, f.nx⟩]) tx n D ∧
    Out F w (w2.setCell ⟨go, A.length * 6 + 4, none⟩ (.slice (some ⟨gg, 0, none⟩) (f.x.kids.length + 1) c2)) ∧
    Carry (idleB F g mb vo vt (A ++ [f])) (idleB (grw F w (w2.setCell ⟨go, A.length * 6 + 4, none⟩ (.slice (some ⟨gg, 0, none⟩) (f.x.kids.length + 1) c2))) g mb vo vt (A ++ [⟨M7.wk f.x (f.x.kids ++ [x]), f.va, .slice (some ⟨gg, 0, none⟩) (f.x.kids.length + 1) c2, f.nx⟩])) w (w2.setCell ⟨go, A.length * 6 + 4, none⟩ (.slice (some ⟨gg, 0, none⟩) (f.x.kids.length + 1) c2)) := by
  obtain ⟨w3, hw3⟩ : ∃ W, W = w2.setCell ⟨go, A.length * 6 + 4, none⟩ (.slice (some ⟨gg, 0, none⟩) (f.x.kids.length + 1) c2) := ⟨_, rfl⟩
  obtain ⟨f', hf'⟩ : ∃ f' : FV, f' = ⟨M7.wk f.x (f.x.kids ++ [x]), f.va, .slice (some ⟨gg, 0, none⟩) (f.x.kids.length + 1) c2, f.nx⟩ := ⟨_, rfl⟩
  rw [← hw3, ← hf']
  have hz2 : w.heap.size ≤ w2.heap.size := hgrow.size
  have hz3 : w3.heap.size = w2.heap.size := by rw [hw3]; simp
  have rgo : roleB g mb vo vt (A ++ [f]) 2 = some go := by rw [hvo]; rfl
  have rk : roleB g mb vo vt (A ++ [f]) (A.length + 4) = f.vk.ownBlock := role_last ..
  have rk' : roleB g mb vo vt (A ++ [f']) (A.length + 4) = some gg := by rw [role_last, hf']; rfl
  have ho := role_snoc g mb vo vt A f f'
  have hk : ∀ c, roleB g mb vo vt (A ++ [f']) (A.length + 4) = some c → roleB g mb vo vt (A ++ [f]) (A.length + 4) = some c ∨ w.heap.size ≤ c := fun c e => by
    rw [rk'] at e
    cases e
    rw [rk]; exact hat
  have hsame : ∀ b, b < w.heap.size → f.vk.ownBlock ≠ some b → b ≠ go → w3.heap[b]? = w.heap[b]? := fun b hb h1 h2 => by
    rw [hw3, Below.heap_setCell _ _ _ _ h2]
    exact hgrow.block b hb (fun e => h1 e.symm)
  have hsr : ∀ i c, roleB g mb vo vt (A ++ [f]) i = some c → i ≠ 2 → i ≠ A.length + 4 → w3.heap[c]? = w.heap[c]? := fun i c e h2 hk4 =>
    hsame c (h.role_lt e) (fun e2 => hk4 (h.inj _ _ c e (rk.trans e2))) (fun e2 => h2 (h.inj i 2 c e (by rw [rgo, e2])))
  have hgl : gg < w3.heap.size := by have := hown.lt gg rfl; omega
  have hne : gg ≠ go := fun e => by
    rcases hat with h1 | h1
    · have := h.inj _ _ gg (rk.trans h1) (by rw [rgo, e]); omega
    · have := h.role_lt rgo; omega
  have hcar : Carry (idleB F g mb vo vt (A ++ [f])) (idleB (grw F w w3) g mb vo vt (A ++ [f'])) w w3 := fun b hb =>
    ⟨⟨.inl hb.1, turn_idle ho hk (h.lt b hb.1) hb.2⟩, hsame b (h.lt b hb.1) (fun e => hb.2 _ (rk.trans e)) (fun e => hb.2 2 (by rw [rgo, e]))⟩
  have hrow3 : w3.ownsRow 0 189 6 vo (A ++ [f']).length (cellsF (A ++ [f'])) := by
    have r2 : w2.ownsRow 0 189 6 (.slice (some ⟨go, 0, none⟩) (A.length + 1) cap) (A.length + 1) (cellsF (A ++ [f])) := by
      have := own_keepW (w' := w2) h.row (fun c e => hgrow.block c (h.role_lt (i := 2) e) (fun e2 => by have := h.inj 2 (A.length + 4) c e (rk.trans e2.symm); omega))
      rw [hvo] at this
      simpa using this
    have r3 := (r2.stored (A.length * 6 + 4) (.slice (some ⟨gg, 0, none⟩) (f.x.kids.length + 1) c2)).1
    rw [← hw3] at r3
    have e : (cellsF (A ++ [f])).set (A.length * 6 + 4) (.slice (some ⟨gg, 0, none⟩) (f.x.kids.length + 1) c2) = cellsF (A ++ [f']) := by
      rw [cellsF_append, cellsF_append, cellsF_one, cellsF_one, List.set_append_right _ _ (by rw [cellsF_len]; omega), cellsF_len, hf']
      rw [show A.length * 6 + 4 - A.length * 6 = 4 by omega]
      rfl
    rw [e] at r3
    rw [hvo]
    simpa using r3
  refine ⟨⟨h.box.keep (hsr 0 g rfl (by decide) (by omega)), h.ptr, hrow3, ownF_keepW h.text (fun c e => hsr 3 c e (by decide) (by omega)), map_keepW h.map (hsr 1 mb rfl (by decide) (by omega)), fun q hq => ?_, fun q hq => ?_, turn_inj h.inj (fun _ _ e => h.role_lt e) ho hk, turn_sub h.sub ho hk (fun c e => by rw [rk'] at e; cases e; exact hgl), grw_lt h.lt (by omega)⟩, ⟨?_, ?_, ?_, by omega, fun b hb hF => hsame b hb (fun e => hF (h.sub _ b (rk.trans e))) (fun e => hF (by rw [e]; exact h.sub 2 go rgo))⟩, hcar⟩
  · rcases List.mem_append.1 hq with hq | hq
    · obtain ⟨ys, h1, h2⟩ := h.kids q (List.mem_append_left _ hq)
      obtain ⟨i, hi⟩ := List.mem_iff_getElem?.1 hq
      have hil := (List.getElem?_eq_some_iff.1 hi).1
      have hi2 : (A ++ [f])[i]? = some q := by rw [List.getElem?_append_left hil]; exact hi
      refine ⟨ys, own_keepW h1 (fun c e => hsr (i + 4) c (by rw [Bld.kid_role hi2]; exact e) (by omega) (by omega)), RepC.mono (fun b hb => (hcar b hb).1) _ _ (RepC.keep (fun b hb => (hcar b hb).2) _ _ h2)⟩
    · rw [List.mem_singleton.1 hq, hf']
      refine ⟨xs ++ x.cells va vk, ?_, ?_⟩
      · have : (M7.wk f.x (f.x.kids ++ [x])).kids.length = f.x.kids.length + 1 := by show (f.x.kids ++ [x]).length = _; simp
        show w3.ownsRow 0 41 5 _ (M7.wk f.x (f.x.kids ++ [x])).kids.length _
        rw [this]
        exact own_keepW hown (fun c e => by
          have e : gg = c := by simpa [Value.ownBlock] using e
          rw [hw3, Below.heap_setCell _ _ _ _ (by show c ≠ go; omega)])
      · have q1 : RepC (idleB (grw F w w3) g mb vo vt (A ++ [f'])) w3 xs f.x.kids := RepC.mono (fun b hb => (hcar b hb).1) _ _ (RepC.keep (fun b hb => (hcar b hb).2) _ _ hrep)
        have q2 := RepC.append (RepC.single (hcar.rep hx)) _ _ q1
        rw [hf'] at q2
        exact q2
  · have q1 : ∀ p ∈ A ++ [f], Row (idleB (grw F w w3) g mb vo vt (A ++ [f'])) w3 2 p.va p.x.attrs.length (cellsA p.x.attrs) := fun p hp => ((h.atts p hp).keep (fun b hb => (hcar b hb).2)).mono (fun b hb => (hcar b hb).1)
    rcases List.mem_append.1 hq with hq | hq
    · exact q1 q (List.mem_append_left _ hq)
    · have := q1 f (by simp)
      rw [List.mem_singleton.1 hq]
      rw [hf'] at this ⊢
      exact this
  · rw [hw3]; exact hgrow.os
  · rw [hw3]; exact hgrow.tape
  · rw [hw3]; exact hgrow.output

/-- Its text turned. -/
theorem Bld.txt {vt' pt' : Value} {tx' : List UInt8} (h : Bld F w g mb vo vt pt fs tx n D) (hbox : Box w' g 193 [vo, pt', vt', .map (some mb)]) (hp : pt' = .pointer none ∨ pt' = .pointer (some ⟨g, 1, none⟩))
    (hown : w'.ownsRowF 0 5 1 vt' tx'.length (u8s tx')) (hat : ∀ c, vt'.ownBlock = some c → vt.ownBlock = some c ∨ w.heap.size ≤ c) (ht : Turned g vt.ownBlock w w') :
    Bld (grw F w w') w' g mb vo vt' pt' fs tx' n D ∧ Out F w w' ∧ Carry (idleB F g mb vo vt fs) (idleB (grw F w w') g mb vo vt' fs) w w' := by
  obtain ⟨t1, t2, t3, hz, hsame⟩ := ht
  have ho : ∀ i, i ≠ 3 → roleB g mb vo vt' fs i = roleB g mb vo vt fs i := fun i hi => by
    match i, hi with
    | 0, _ | 1, _ | 2, _ => rfl
    | 3, h => exact absurd rfl h
    | i + 4, _ => rfl
  have hk : ∀ c, roleB g mb vo vt' fs 3 = some c → roleB g mb vo vt fs 3 = some c ∨ w.heap.size ≤ c := hat
  have hsr : ∀ i c, roleB g mb vo vt fs i = some c → i ≠ 0 → i ≠ 3 → w'.heap[c]? = w.heap[c]? := fun i c e h0 h3 =>
    hsame c (h.role_lt e) (fun e2 => h0 (h.inj i 0 c e (by rw [e2]; rfl))) (fun e2 => h3 (h.inj i 3 c e e2))
  have hcar : Carry (idleB F g mb vo vt fs) (idleB (grw F w w') g mb vo vt' fs) w w' := fun b hb =>
    ⟨⟨.inl hb.1, turn_idle ho hk (h.lt b hb.1) hb.2⟩, hsame b (h.lt b hb.1) (fun e => hb.2 0 (by rw [e]; rfl)) (fun e => hb.2 3 e)⟩
  refine ⟨⟨hbox, hp, own_keepW h.row (fun c e => hsr 2 c e (by decide) (by decide)), hown, map_keepW h.map (hsr 1 mb rfl (by decide) (by decide)), fun q hq => ?_, fun q hq => ((h.atts q hq).keep (fun b hb => (hcar b hb).2)).mono (fun b hb => (hcar b hb).1), turn_inj h.inj (fun _ _ e => h.role_lt e) ho hk, turn_sub h.sub ho hk (fun c e => (hown.lt c e).2), grw_lt h.lt hz⟩, ⟨t1, t2, t3, hz, fun b hb hF => hsame b hb (fun e => hF (by rw [e]; exact h.sub 0 g rfl)) (fun e => hF (h.sub 3 b e))⟩, hcar⟩
  obtain ⟨ys, h1, h2⟩ := h.kids q hq
  obtain ⟨i, hi⟩ := List.mem_iff_getElem?.1 hq
  exact ⟨ys, own_keepW h1 (fun c e => hsr (i + 4) c (by rw [Bld.kid_role hi]; exact e) (by omega) (by omega)), RepC.mono (fun b hb => (hcar b hb).1) _ _ (RepC.keep (fun b hb => (hcar b hb).2) _ _ h2)⟩

/-- Its map turned. -/
theorem Bld.putm {n' : Nat} {D' : DataW Unit} (h : Bld F w g mb vo vt pt fs tx n D) (hg : w.grownBy w' (some mb)) (hm : w'.ownsMap Tryz.prog 9 (plainElem (H := Unit) Tryz.prog 3) mb n' D') :
    Bld (grw F w w') w' g mb vo vt pt fs tx n' D' ∧ Out F w w' ∧ Carry (idleB F g mb vo vt fs) (idleB (grw F w w') g mb vo vt fs) w w' := by
  have hsr : ∀ i c, roleB g mb vo vt fs i = some c → i ≠ 1 → w'.heap[c]? = w.heap[c]? := fun i c e h1 =>
    hg.block c (h.role_lt e) (fun e2 => h1 (h.inj i 1 c e (by rw [show c = mb from Option.some.inj e2]; rfl)))
  have hcar : Carry (idleB F g mb vo vt fs) (idleB (grw F w w') g mb vo vt fs) w w' := fun b hb =>
    ⟨⟨.inl hb.1, hb.2⟩, hg.block b (h.lt b hb.1) (fun e => hb.2 1 (by rw [show b = mb from Option.some.inj e]; rfl))⟩
  refine ⟨⟨h.box.keep (hsr 0 g rfl (by decide)), h.ptr, own_keepW h.row (fun c e => hsr 2 c e (by decide)), ownF_keepW h.text (fun c e => hsr 3 c e (by decide)), hm, fun q hq => ?_, fun q hq => ((h.atts q hq).keep (fun b hb => (hcar b hb).2)).mono (fun b hb => (hcar b hb).1), h.inj, fun i c e => .inl (h.sub i c e), grw_lt h.lt hg.size⟩, ⟨hg.os, hg.tape, hg.output, hg.size, fun b hb hF => hg.block b hb (fun e => hF (by rw [show b = mb from Option.some.inj e]; exact h.sub 1 mb rfl))⟩, hcar⟩
  obtain ⟨ys, h1, h2⟩ := h.kids q hq
  obtain ⟨i, hi⟩ := List.mem_iff_getElem?.1 hq
  exact ⟨ys, own_keepW h1 (fun c e => hsr (i + 4) c (by rw [Bld.kid_role hi]; exact e) (by omega)), RepC.mono (fun b hb => (hcar b hb).1) _ _ (RepC.keep (fun b hb => (hcar b hb).2) _ _ h2)⟩

/-- The innermost one let go: it is idle then. -/
theorem Bld.pop {A : List FV} {f : FV} {go cap : Nat} (h : Bld F w g mb vo vt pt (A ++ [f]) tx n D) (hvo : vo = .slice (some ⟨go, 0, none⟩) (A.length + 1) cap) :
    Bld F (w.setCell ⟨g, 0, none⟩ (.slice (some ⟨go, 0, none⟩) A.length cap)) g mb (.slice (some ⟨go, 0, none⟩) A.length cap) vt pt A tx n D ∧
    RepV (idleB F g mb (.slice (some ⟨go, 0, none⟩) A.length cap) vt A) (w.setCell ⟨g, 0, none⟩ (.slice (some ⟨go, 0, none⟩) A.length cap)) f.x f.va f.vk ∧ Out F w (w.setCell ⟨g, 0, none⟩ (.slice (some ⟨go, 0, none⟩) A.length cap)) := by
  obtain ⟨w3, hw3⟩ : ∃ W, W = w.setCell ⟨g, 0, none⟩ (.slice (some ⟨go, 0, none⟩) A.length cap) := ⟨_, rfl⟩
  obtain ⟨vo', hvo'⟩ : ∃ v, v = Value.slice (some ⟨go, 0, none⟩) A.length cap := ⟨_, rfl⟩
  have rk : roleB g mb vo vt (A ++ [f]) (A.length + 4) = f.vk.ownBlock := role_last ..
  have hr : ∀ i c, roleB g mb vo' vt A i = some c → roleB g mb vo vt (A ++ [f]) i = some c ∧ i ≠ A.length + 4 := fun i c e => by
    match i, e with
    | 0, e | 1, e | 3, e => exact ⟨e, by omega⟩
    | 2, e => exact ⟨by rw [hvo]; rw [hvo'] at e; exact e, by omega⟩
    | i + 4, e =>
      have e : (A[i]?).bind (fun f => f.vk.ownBlock) = some c := e
      have hi : i < A.length := by
        rcases Nat.lt_or_ge i A.length with h1 | h1
        · exact h1
        · rw [List.getElem?_eq_none h1] at e; cases e
      refine ⟨?_, by omega⟩
      show ((A ++ [f])[i]?).bind _ = _
      rw [List.getElem?_append_left hi]
      exact e
  have hidle : ∀ b, idleB F g mb vo vt (A ++ [f]) b → idleB F g mb vo' vt A b := fun b hb => ⟨hb.1, fun i e => hb.2 i (hr i b e).1⟩
  have hfar : ∀ c, c ≠ g → w3.heap[c]? = w.heap[c]? := fun c hc => by rw [hw3]; exact Below.heap_setCell _ _ _ _ hc
  have hig : ∀ b, idleB F g mb vo vt (A ++ [f]) b → b ≠ g := fun b hb e => hb.2 0 (by rw [e]; rfl)
  have hbox : Box w3 g 193 [vo', pt, vt, .map (some mb)] := by rw [hw3, hvo']; exact h.box.set 0 _
  have hsr : ∀ i c, roleB g mb vo vt (A ++ [f]) i = some c → i ≠ 0 → w3.heap[c]? = w.heap[c]? := fun i c e h0 => hfar c (fun e2 => h0 (h.inj i 0 c e (by rw [e2]; rfl)))
  have hrow : w3.ownsRow 0 189 6 vo' A.length (cellsF A) := by
    have r := own_keepW (w' := w3) h.row (fun c e => hsr 2 c e (by decide))
    obtain ⟨r1, r2⟩ := r
    refine ⟨cellsF_len A, ?_⟩
    rcases r2 with ⟨e, _⟩ | ⟨c, cp, cur, e, q1, q2, q3, q4, q5, q6⟩
    · rw [hvo] at e; cases e
    · rw [hvo] at e
      injection e with e1 e2 e3
      injection e1 with e1
      injection e1 with e1
      subst e1 e3
      refine .inr ⟨go, cap, cur, hvo', q1, q2, by simp at q3; omega, q4, q5, ?_⟩
      have : (cur.toList.take ((A ++ [f]).length * 6)).take (A.length * 6) = cellsF A := by
        rw [q6, cellsF_append, List.take_append_of_le_length (by rw [cellsF_len]; omega), List.take_of_length_le (by rw [cellsF_len]; omega)]
      rw [List.take_take] at this
      rw [← this]
      congr 1
      simp
  rw [← hvo'] at hw3 ⊢
  rw [← hw3]
  refine ⟨⟨hbox, h.ptr, hrow, ownF_keepW h.text (fun c e => hsr 3 c e (by decide)), map_keepW h.map (hsr 1 mb rfl (by decide)), fun q hq => ?_, fun q hq => ((h.atts q (List.mem_append_left _ hq)).keep (fun b hb => hfar b (hig b hb))).mono hidle, fun i j c e1 e2 => h.inj i j c (hr i c e1).1 (hr j c e2).1, fun i c e => h.sub i c (hr i c e).1, fun b hb => by rw [hw3]; simpa using h.lt b hb⟩, ⟨((h.atts f (by simp)).keep (fun b hb => hfar b (hig b hb))).mono hidle, ?_⟩, ?_⟩
  · obtain ⟨ys, h1, h2⟩ := h.kids q (List.mem_append_left _ hq)
    obtain ⟨i, hi⟩ := List.mem_iff_getElem?.1 hq
    have hi2 : (A ++ [f])[i]? = some q := by rw [List.getElem?_append_left (List.getElem?_eq_some_iff.1 hi).1]; exact hi
    exact ⟨ys, own_keepW h1 (fun c e => hsr (i + 4) c (by rw [Bld.kid_role hi2]; exact e) (by omega)), RepC.mono hidle _ _ (RepC.keep (fun b hb => hfar b (hig b hb)) _ _ h2)⟩
  · obtain ⟨ys, h1, h2⟩ := h.kids f (by simp)
    refine ⟨ys, Row.own (own_keepW h1 (fun c e => hsr (A.length + 4) c (rk.trans e) (by omega))) (fun c e => ⟨h.sub _ c (rk.trans e), fun i e2 => ?_⟩), RepC.mono hidle _ _ (RepC.keep (fun b hb => hfar b (hig b hb)) _ _ h2)⟩
    obtain ⟨e3, e4⟩ := hr i c e2
    exact e4 (h.inj i _ c e3 (rk.trans e))
  · rw [hw3]
    exact ⟨rfl, rfl, rfl, by simp, fun b _ hF => Below.heap_setCell _ _ _ _ (fun e => hF (by rw [e]; exact h.sub 0 g rfl))⟩

/-- One more open element. -/
theorem Bld.push {f : FV} {gg c2 : Nat} {w2 : World} (h : Bld F w g mb vo vt pt fs tx n D) (hfk : f.vk = .slice none 0 0) (hf0 : f.x.kids = [])
    (hx : RepV (idleB F g mb vo vt fs) w f.x f.va f.vk) (hgrow : w.grownBy w2 vo.ownBlock) (hown : w2.ownsRow 0 189 6 (.slice (some ⟨gg, 0, none⟩) (fs.length + 1) c2) (fs.length + 1) (cellsF fs ++ f.cells)) (hat : vo.ownBlock = some gg ∨ w.heap.size ≤ gg) :
    Bld (grw F w (w2.setCell ⟨g, 0, none⟩ (.slice (some ⟨gg, 0, none⟩) (fs.length + 1) c2))) (w2.setCell ⟨g, 0, none⟩ (.slice (some ⟨gg, 0, none⟩) (fs.length + 1) c2)) g mb (.slice (some ⟨gg, 0, none⟩) (fs.length + 1) c2) vt pt (fs ++ [f]) tx n D ∧
    Out F w (w2.setCell ⟨g, 0, none⟩ (.slice (some ⟨gg, 0, none⟩) (fs.length + 1) c2)) := by
  obtain ⟨vo', hvo'⟩ : ∃ v, v = Value.slice (some ⟨gg, 0, none⟩) (fs.length + 1) c2 := ⟨_, rfl⟩
  rw [← hvo'] at hown ⊢
  obtain ⟨w3, hw3⟩ : ∃ W, W = w2.setCell ⟨g, 0, none⟩ vo' := ⟨_, rfl⟩
  rw [← hw3]
  have hz2 := hgrow.size
  have hz3 : w3.heap.size = w2.heap.size := by rw [hw3]; simp
  have ho : ∀ i, i ≠ 2 → roleB g mb vo' vt (fs ++ [f]) i = roleB g mb vo vt fs i := fun i hi => by
    match i, hi with
    | 0, _ | 1, _ | 3, _ => rfl
    | 2, h => exact absurd rfl h
    | i + 4, _ =>
      show ((fs ++ [f])[i]?).bind _ = (fs[i]?).bind _
      rw [List.getElem?_append]
      split
      · rfl
      · rename_i hi
        rw [List.getElem?_eq_none (l := fs) (by omega)]
        cases hj : [f][i - fs.length]? with
        | none => rfl
        | some q =>
          obtain ⟨_, e⟩ := List.getElem?_eq_some_iff.1 hj
          have : q = f := by
            have := List.mem_of_getElem? hj
            simpa using this
          subst this
          show q.vk.ownBlock = none
          rw [hfk]; rfl
  have r2' : roleB g mb vo' vt (fs ++ [f]) 2 = some gg := by rw [hvo']; rfl
  have hk : ∀ c, roleB g mb vo' vt (fs ++ [f]) 2 = some c → roleB g mb vo vt fs 2 = some c ∨ w.heap.size ≤ c := fun c e => by
    rw [r2'] at e; cases e; exact hat
  have hsame : ∀ b, b < w.heap.size → vo.ownBlock ≠ some b → b ≠ g → w3.heap[b]? = w.heap[b]? := fun b hb h1 h2 => by
    rw [hw3, Below.heap_setCell _ _ _ _ h2]
    exact hgrow.block b hb (fun e => h1 e.symm)
  have hsr : ∀ i c, roleB g mb vo vt fs i = some c → i ≠ 0 → i ≠ 2 → w3.heap[c]? = w.heap[c]? := fun i c e h0 h2 =>
    hsame c (h.role_lt e) (fun e2 => h2 (h.inj i 2 c e e2)) (fun e2 => h0 (h.inj i 0 c e (by rw [e2]; rfl)))
  have hgl : gg < w3.heap.size := by have := hown.lt gg (by rw [hvo']; rfl); omega
  have hne : gg ≠ g := fun e => by
    rcases hat with h1 | h1
    · have := h.inj 2 0 gg h1 (by rw [e]; rfl); omega
    · have := h.role_lt (i := 0) rfl; omega
  have hcar : Carry (idleB F g mb vo vt fs) (idleB (grw F w w3) g mb vo' vt (fs ++ [f])) w w3 := fun b hb =>
    ⟨⟨.inl hb.1, turn_idle ho hk (h.lt b hb.1) hb.2⟩, hsame b (h.lt b hb.1) (fun e => hb.2 2 e) (fun e => hb.2 0 (by rw [e]; rfl))⟩
  have hbox2 : Box w2 g 193 [vo, pt, vt, .map (some mb)] := h.box.keep (hgrow.block g (h.role_lt (i := 0) rfl) (fun e => by have := h.inj 2 0 g e.symm rfl; omega))
  have hbox : Box w3 g 193 [vo', pt, vt, .map (some mb)] := by rw [hw3]; exact hbox2.set 0 _
  have hrow : w3.ownsRow 0 189 6 vo' (fs ++ [f]).length (cellsF (fs ++ [f])) := by
    rw [cellsF_append, cellsF_one, List.length_append]
    exact own_keepW hown (fun c e => by
      have e : gg = c := by rw [hvo'] at e; simpa [Value.ownBlock] using e
      rw [hw3, Below.heap_setCell _ _ _ _ (by show c ≠ g; omega)])
  refine ⟨⟨hbox, h.ptr, hrow, ownF_keepW h.text (fun c e => hsr 3 c e (by decide) (by decide)), map_keepW h.map (hsr 1 mb rfl (by decide) (by decide)), fun q hq => ?_, fun q hq => ?_, turn_inj h.inj (fun _ _ e => h.role_lt e) ho hk, turn_sub h.sub ho hk (fun c e => by rw [r2'] at e; cases e; exact hgl), grw_lt h.lt (by omega)⟩, ⟨by rw [hw3]; exact hgrow.os, by rw [hw3]; exact hgrow.tape, by rw [hw3]; exact hgrow.output, by omega, fun b hb hF => hsame b hb (fun e => hF (h.sub 2 b e)) (fun e => hF (by rw [e]; exact h.sub 0 g rfl))⟩⟩
  · rcases List.mem_append.1 hq with hq | hq
    · obtain ⟨ys, h1, h2⟩ := h.kids q hq
      obtain ⟨i, hi⟩ := List.mem_iff_getElem?.1 hq
      exact ⟨ys, own_keepW h1 (fun c e => hsr (i + 4) c (by rw [Bld.kid_role hi]; exact e) (by omega) (by omega)), RepC.mono (fun b hb => (hcar b hb).1) _ _ (RepC.keep (fun b hb => (hcar b hb).2) _ _ h2)⟩
    · obtain rfl := List.mem_singleton.1 hq
      rw [hfk, hf0]
      exact ⟨[], World.ownsRow_nil _ _ _ _, RepC.nil _ _⟩
  · rcases List.mem_append.1 hq with hq | hq
    · exact ((h.atts q hq).keep (fun b hb => (hcar b hb).2)).mono (fun b hb => (hcar b hb).1)
    · obtain rfl := List.mem_singleton.1 hq
      exact ((hx.at_).keep (fun b hb => (hcar b hb).2)).mono (fun b hb => (hcar b hb).1)
end
end Go.Proofs.YteefodibpjgicaaGreat
