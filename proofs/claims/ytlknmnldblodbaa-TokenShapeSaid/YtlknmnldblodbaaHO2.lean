/- Texts joined: Ref03g, Law03v, Ref03h, Good, Math5i, Math5j, Law05w. -/
import Derived.Outline
import Derived.Deep.CutRange
import Derived.Test.YtlknmnldblodbaaH1
import Derived.Test.YtlknmnldblodbaaH2
import Derived.Test.YtlknmnldblodbaaH3
import Derived.Test.YtlknmnldblodbaaH4
import Derived.Test.YtlknmnldblodbaaH5
import Derived.Test.YtlknmnldblodbaaH6
import Derived.Test.YtlknmnldblodbaaHMath5g
import Derived.Test.YtlknmnldblodbaaHWr2
import Derived.Test.YtlknmnldblodbaaHRef04
import Derived.Test.YtlknmnldblodbaaHLaw05c
import Derived.Test.YtlknmnldblodbaaHMath5h
import Derived.Test.YtlknmnldblodbaaHLaw05b
import Derived.Test.YtlknmnldblodbaaHO1
/- The reference of layer 3: an element's name, an attribute's name, of any text. -/
namespace Go.Proofs.Ytlknmnldblodbaa
open Go.RowKit

theorem sumB_succ (l : List UInt8) (k : Nat) (h : k < l.length) : M3.sumB (l.take (k + 1)) = M3.sumB (l.take k) + l[k].toNat := by
  unfold M3.sumB
  rw [List.take_succ_eq_append_getElem h, List.map_append, List.sum_append]
  simp
theorem sumB_le (l : List UInt8) : M3.sumB l ≤ 255 * l.length := by
  unfold M3.sumB
  induction l with
  | nil => simp
  | cons c r ih => simp only [List.map_cons, List.sum_cons, List.length_cons]; have := c.toNat_lt; omega
def StrPost (s : ByteArray) (w : World) (e : Ending) (w' : World) : Prop := e = .returned (.string s) ∧ Below w.heap.size w w'

set_option maxHeartbeats 4000000 in
set_option maxRecDepth 100000 in
theorem ref03Word (s : ByteArray) (w : World) (hs : s.size ≤ 1073741824) : Calls Try.prog 73 #[.string s] w (StrPost (M3.wordN s) w) := by
  have hN := Lib.hid (fun W => ref03Named s W (by omega))
  have hw : Hid (M3.wordN s = if M3.namedB s.data.toList then s else M3.wordsL.getD (M3.sumB s.data.toList % 10) ⟨#[]⟩) := rfl
  generalize M3.namedB s.data.toList = p at *
  have hbx := Box.new w 9 (M3.wordsL.map Value.string)
  have hb0 : Below w.heap.size w (w.alloc (.cells (M3.wordsL.map Value.string).toArray 9)) := (Below.refl _ _).alloc (Nat.le_refl _) _
  have hlen : s.data.toList.length = s.size := rfl
  have hle := sumB_le s.data.toList
  go_enter Try.func73, Try.ntmps73
  go_wp2_with fail
  obtain ⟨W0, hW0⟩ : ∃ W0, w.alloc (.cells (M3.wordsL.map Value.string).toArray 9) = W0 := ⟨_, rfl⟩
  rw [hW0] at hbx hb0
  change w.alloc (.cells #[.string ⟨#[97]⟩, .string ⟨#[98]⟩, .string ⟨#[112]⟩, .string ⟨#[117, 108]⟩, .string ⟨#[108, 105]⟩, .string ⟨#[98, 114]⟩, .string ⟨#[105, 109, 103]⟩, .string ⟨#[100, 105, 118]⟩, .string ⟨#[115, 99, 114, 105, 112, 116]⟩, .string ⟨#[120, 45, 121]⟩] 9) = W0 at hW0
  rw [hW0]
  clear hW0
  go_loop [4, 5] (fun u4 u5 => ∃ k : Nat, k ≤ s.size ∧ u5 = .int .i64 (k : Int) ∧ u4 = .int .i64 (M3.sumB (s.data.toList.take k) : Int)) (fun _ u5 => s.size - (intOf u5).toNat)
  case atStart => exact ⟨0, by omega, rfl, by simp [M3.sumB]⟩
  case round =>
    obtain ⟨k, hk, rfl, rfl⟩ := hrel
    have hl2 := sumB_le (s.data.toList.take k)
    have hl3 : (s.data.toList.take k).length ≤ k := List.length_take_le _ _
    by_cases hlt : k < s.size
    · have hsu := sumB_succ s.data.toList k hlt
      have hsu2 : Hid (M3.sumB (s.data.toList.take (k + 1)) = M3.sumB (s.data.toList.take k) + s[k].toNat) := hsu
      clear hsu
      have hb := s[k].toNat_lt
      generalize M3.sumB (s.data.toList.take k) = m at *
      go_wp2_with fail
      go_round
      case rel => exact ⟨k + 1, by omega, by go_num, by rw [hsu2.out]; go_num⟩
      case measure => exact meas_nat hlt
    · obtain rfl : k = s.size := by omega
      rw [List.take_of_length_le (show s.data.toList.length ≤ s.size from Nat.le_refl _)] at *
      generalize M3.sumB s.data.toList = m at *
      cases p
      · replace hw : Hid (M3.wordN s = M3.wordsL.getD (m % 10) ⟨#[]⟩) := hw
        go_wp2_with fail
        refine (hN.out _).mono ?_
        rintro e w1 ⟨rfl, rfl⟩
        have hm10 : m % 10 < 10 := Nat.mod_lt _ (by decide)
        have hcell := hbx.cell (i := m % 10) (v := .string (M3.wordsL.getD (m % 10) ⟨#[]⟩)) (by
          rw [List.getElem?_map, List.getElem?_eq_getElem (by exact hm10), List.getD_eq_getElem?_getD, List.getElem?_eq_getElem (by exact hm10)]; rfl)
        generalize M3.wordsL.getD (m % 10) ⟨#[]⟩ = ans at *
        have hm0 : (0 : Int) ≤ (m : Int) := by omega
        have hmi : (m : Int) % 10 = ((m % 10 : Nat) : Int) := by omega
        have hmj : ((m % 10 : Nat) : Int) < 10 := by omega
        generalize m % 10 = j at *
        go_wp2_with fail
        go_ret
        exact ⟨by rw [hw.out]; rfl, hb0⟩
      · replace hw : Hid (M3.wordN s = s) := hw
        go_wp2_with fail
        refine (hN.out _).mono ?_
        rintro e w1 ⟨rfl, rfl⟩
        go_wp2_with fail
        go_ret
        exact ⟨by rw [hw.out]; rfl, hb0⟩

set_option maxHeartbeats 4000000 in
set_option maxRecDepth 100000 in
theorem ref03Attribute (s : ByteArray) (w : World) (hs : s.size ≤ 268435456) : Calls Try.prog 74 #[.string s] w (StrPost (M3.attrN s) w) := by
  have hN := Lib.hid (ref03Attributed s w hs)
  have hw : Hid (M3.attrN s = if M3.attributedB s.data.toList then s else M3.attrsL.getD (s.size % 5) ⟨#[]⟩) := rfl
  generalize M3.attributedB s.data.toList = p at *
  go_enter Try.func74, Try.ntmps74
  go_wp2_with fail
  refine hN.out.mono ?_
  rintro e w1 ⟨rfl, hb1⟩
  cases p
  · replace hw : Hid (M3.attrN s = M3.attrsL.getD (s.size % 5) ⟨#[]⟩) := hw
    have hbx := Box.new w1 9 (M3.attrsL.map Value.string)
    have hb0 : Below w1.heap.size w1 (w1.alloc (.cells (M3.attrsL.map Value.string).toArray 9)) := (Below.refl _ _).alloc (Nat.le_refl _) _
    have hm10 : s.size % 5 < 5 := Nat.mod_lt _ (by decide)
    have hcell := hbx.cell (i := s.size % 5) (v := .string (M3.attrsL.getD (s.size % 5) ⟨#[]⟩)) (by
      rw [List.getElem?_map, List.getElem?_eq_getElem (by exact hm10), List.getD_eq_getElem?_getD, List.getElem?_eq_getElem (by exact hm10)]; rfl)
    have hbb : Below w.heap.size w (w1.alloc (.cells (M3.attrsL.map Value.string).toArray 9)) := bt hb1 hb0
    change (w1.alloc (.cells #[.string ⟨#[105, 100]⟩, .string ⟨#[104, 114, 101, 102]⟩, .string ⟨#[116, 105, 116, 108, 101]⟩, .string ⟨#[100, 97, 116, 97, 45, 97]⟩, .string ⟨#[111, 110, 99, 108, 105, 99, 107]⟩] 9)).cell? _ = _ at hcell
    change Below w.heap.size w (w1.alloc (.cells #[.string ⟨#[105, 100]⟩, .string ⟨#[104, 114, 101, 102]⟩, .string ⟨#[116, 105, 116, 108, 101]⟩, .string ⟨#[100, 97, 116, 97, 45, 97]⟩, .string ⟨#[111, 110, 99, 108, 105, 99, 107]⟩] 9)) at hbb
    generalize M3.attrsL.getD (s.size % 5) ⟨#[]⟩ = ans at *
    have hmi : (s.size : Int) % 5 = ((s.size % 5 : Nat) : Int) := by omega
    have hmj : ((s.size % 5 : Nat) : Int) < 5 := by omega
    have hmk : (0 : Int) ≤ (s.size : Int) := by omega
    generalize s.size % 5 = j at *
    clear hbx hb0
    go_wp2_with fail
    go_ret
    exact ⟨by rw [hw.out]; rfl, hbb⟩
  · replace hw : Hid (M3.attrN s = s) := hw
    go_wp2_with fail
    go_ret
    exact ⟨by rw [hw.out]; rfl, hb1⟩
end Go.Proofs.Ytlknmnldblodbaa

/- Layer 3: values of attributes. -/
namespace Go.Proofs.Ytlknmnldblodbaa
open Go.RowKit

set_option maxHeartbeats 1000000 in
set_option maxRecDepth 100000 in
theorem ref03Value (S : Nat → Prop) (x : Nd) (va vk : Value) (name : ByteArray) (w : World) (hS : ∀ b, S b → b < w.heap.size) (hat : Row S w 2 va x.attrs.length (cellsA x.attrs)) (hvk : ∃ a n c, vk = .slice a n c) :
    Calls Try.prog 27 #[x.val va vk, .string name] w fun e w' => e = .returned (valAns (M3.valueOf name x.attrs)) ∧ Below w.heap.size w w' := by
  obtain ⟨a, cap, rfl⟩ := hat.slice
  obtain ⟨_, hlc, hcm⟩ := hat.len
  obtain ⟨a2, n2, cap2, rfl⟩ := hvk
  cases x with | mk k n ats t ks =>
  simp only [Nd.attrs] at hat hlc hcm ⊢
  simp only [Nd.val, Nd.kind, Nd.name, Nd.text]
  have bx := Box.new w 40 [.int .i64 k, .string n, .slice a ats.length cap, .string t, .slice a2 n2 cap2]
  have hb := (Below.refl w.heap.size w).alloc (Nat.le_refl _) (.cells #[.int .i64 k, .string n, .slice a ats.length cap, .string t, .slice a2 n2 cap2] 40)
  have hat1 := hat.below hS hb
  have c2 := bx.cell (i := 2) rfl
  have hz : w.heap.size < (w.alloc (.cells #[.int .i64 k, .string n, .slice a ats.length cap, .string t, .slice a2 n2 cap2] 40)).heap.size := by simp
  go_enter Try.func27, Try.ntmps27
  change Box (w.alloc (.cells #[.int .i64 k, .string n, .slice a ats.length cap, .string t, .slice a2 n2 cap2] 40)) _ _ _ at bx
  change (w.alloc (.cells #[.int .i64 k, .string n, .slice a ats.length cap, .string t, .slice a2 n2 cap2] 40)).cell? _ = _ at c2
  go_wp2
  obtain ⟨W, hW⟩ : ∃ W, w.alloc (.cells #[.int .i64 k, .string n, .slice a ats.length cap, .string t, .slice a2 n2 cap2] 40) = W := ⟨_, rfl⟩
  rw [hW] at c2 hb hat1 hz ⊢
  clear hW bx hat
  go_loop [6] (fun u6 => ∃ i : Nat, i ≤ ats.length ∧ u6 = .int .i64 (i : Int) ∧ Hid (M3.valueOf name ats = M3.valueOf name (ats.drop i))) (fun u6 => ats.length - (intOf u6).toNat)
  case atStart => exact ⟨0, by omega, rfl, rfl⟩
  case round =>
    obtain ⟨i, hi, rfl, hv⟩ := hrel
    by_cases hlt : i < ats.length
    · obtain ⟨b, off, rfl, hSb, c0, c1⟩ := hat1.atA i hlt
      have hvd := M3.valueOf_drop name ats i hlt
      generalize ats[i].name = nm at *
      generalize ats[i].value = vl at *
      have hq : Hid (M3.eqB nm name = (nm.toList == name.toList)) := rfl
      cases he : (nm.toList == name.toList)
      · rw [hq.out, he] at hvd
        replace hvd := Lib.hid (hv.out.trans hvd)
        clear hv hq
        go_wp2
        go_round
        case rel => exact ⟨i + 1, by omega, by go_num, hvd.out⟩
        case measure => simp [intOf]; omega
      · rw [hq.out, he] at hvd
        replace hvd := Lib.hid (hv.out.trans hvd)
        clear hv hq
        go_wp2
        go_ret2
        exact ⟨by rw [hvd.out]; rfl, hb⟩
    · have hvd : Hid (M3.valueOf name ats = none) := by show _ = _; rw [hv.out, List.drop_of_length_le (by omega)]; rfl
      go_wp2
      go_ret2
      exact ⟨by rw [hvd.out]; rfl, hb⟩

theorem infoS : (Try.prog.info? 9).map (fun i => (i.zero, i.size, i.bytes)) = some (some (.string ⟨#[]⟩), 1, 16) := by kernel_rfl
theorem valAns_mk (o : Option ByteArray) : ∃ s b, valAns o = .tuple #[.string s, .bool b] := ⟨_, _, rfl⟩
theorem cut_attrs (x : Nd) : (fewN [x]) = [.mk x.kind (M3.few x.name) ((x.attrs.take 5).map M3.fewA) (M3.few x.text) (M3.cut x.kids 39).1] := by
  unfold fewN
  rw [show (40 : Nat) = 39 + 1 from rfl, M3.cut_cons, M3.cut_nil]
abbrev strs (l : List ByteArray) : List Value := l.map Value.string


end Go.Proofs.Ytlknmnldblodbaa

/- The reference of layer 3: nodes that may be, made of any. -/
namespace Go.Proofs.Ytlknmnldblodbaa
open Go.RowKit

/-- All texts are short. -/
def Sm1 (x : Nd) : Prop := x.name.size ≤ 30 ∧ x.text.size ≤ 30 ∧ ∀ a ∈ x.attrs, a.name.size ≤ 30 ∧ a.value.size ≤ 30
def Sm30 : List Nd → Prop
  | [] => True
  | .mk k n a t ks :: r => Sm1 (.mk k n a t ks) ∧ Sm30 ks ∧ Sm30 r
termination_by l => SizeOf.sizeOf l
theorem sm_nil : Sm30 [] := by rw [Sm30]; trivial
theorem sm_cons {x : Nd} {r : List Nd} : Sm30 (x :: r) ↔ Sm1 x ∧ Sm30 x.kids ∧ Sm30 r := by cases x; rw [Sm30]; rfl
theorem sm_iff {l : List Nd} : Sm30 l ↔ ∀ x ∈ l, Sm1 x ∧ Sm30 x.kids := by
  induction l with
  | nil => simp [sm_nil]
  | cons x r ih => rw [sm_cons, ih]; simp; exact ⟨fun h => ⟨⟨h.1, h.2.1⟩, h.2.2⟩, fun h => ⟨h.1.1, h.1.2, h.2⟩⟩
theorem cut_sm (l : List Nd) : ∀ m, Sm30 (M3.cut l m).1 := by
  induction l using Nd.ind with
  | h0 => intro m; rw [M3.cut_nil]; exact sm_nil
  | h1 k n ats t ks r ih1 ih2 =>
    intro m
    cases m with
    | zero => rw [M3.cut_zero]; exact sm_nil
    | succ m =>
      rw [M3.cut_cons]
      refine sm_cons.2 ⟨⟨few_size _, few_size _, fun a ha => ?_⟩, ih1 _, ih2 _⟩
      obtain ⟨b, _, rfl⟩ := List.mem_map.1 ha
      exact ⟨few_size _, few_size _⟩
theorem few_sm (l : List Nd) : Sm30 (fewN l) := cut_sm l 40

theorem good_len (l : List Nd) : (M3.goodN l).length = l.length := by rw [M3.goodN_map, List.length_map]
theorem good_weight (l : List Nd) : M3.weight (M3.goodN l) ≤ M3.weight l := by
  induction l using Nd.ind with
  | h0 => rw [M3.goodN_nil]; exact Nat.le_refl _
  | h1 k n ats t ks r ih1 ih2 =>
    rw [M3.goodN_cons, M3.weight_cons, M3.weight_cons, M3.good1_mk]
    have h1 := M3.goodA_len ats
    have h2 := weight_merge (M3.goodN ks)
    show _ ≤ 1 + ats.length + M3.weight ks + M3.weight r
    split
    · show 1 + (M3.goodA ats).length + M3.weight (M3.merge (M3.goodN ks)) + _ ≤ _; omega
    · show 1 + 0 + M3.weight [] + _ ≤ _; rw [M3.weight_nil]; omega
theorem good_texts (l : List Nd) (h : Sm30 l) : ∀ x ∈ M3.goodN l, x.text.size ≤ 120 := by
  intro x hx
  rw [M3.goodN_map] at hx
  obtain ⟨y, hy, rfl⟩ := List.mem_map.1 hx
  have := (sm_iff.1 h y hy).1.2.1
  unfold M3.good1
  split
  · show (⟨#[]⟩ : ByteArray).size ≤ _; decide
  · show (M3.rightN y.text).size ≤ _; have := M3.rightN_size y.text; omega
theorem good_txt (l : List Nd) (h : Sm30 l) : txtN (M3.goodN l) ≤ l.length * 120 := by
  have := txtN_fit _ 120 (good_texts l h)
  rwa [good_len] at this

/-- A new attribute of two calls' answers, in whatever order. -/
def AttI (wr : World) (av a1 a2 : ByteArray) (f : Nat → Bool) (t : Nat → Value) (W : World) : Prop :=
  Below wr.heap.size wr W ∧ (f 19 = true → f 23 = false → Sl W (t 19) (u8s av.data.toList)) ∧ (f 23 = true → f 22 = true ∧ f 20 = true) ∧
    (f 22 = true → ∃ ga, t 22 = .pointer (some ⟨ga, 0, none⟩) ∧ wr.heap.size ≤ ga ∧ Box W ga 44 (bif f 23 then [.string a1, .string a2] else [.string ⟨#[]⟩, .string ⟨#[]⟩]))
theorem AttI.start (wr : World) (av a1 a2 : ByteArray) (t : Nat → Value) {f : Nat → Bool} (h1 : f 19 = false) (h2 : f 22 = false) (h3 : f 23 = false) : AttI wr av a1 a2 f t wr.drew :=
  ⟨(Below.refl _ _).drew, (fun h => by rw [h1] at h; cases h), (fun h => by rw [h3] at h; cases h), (fun h => by rw [h2] at h; cases h)⟩
theorem AttI.next {wr W W' : World} {av a1 a2 : ByteArray} {f : Nat → Bool} {t : Nat → Value} (h : AttI wr av a1 a2 f t W) (hb : Below W.heap.size W W') : AttI wr av a1 a2 f t W' := by
  obtain ⟨h1, h2, h3, h4⟩ := h
  refine ⟨h1.trans (hb.mono h1.size), fun hf hg => (h2 hf hg).below hb, h3, fun hf => ?_⟩
  obtain ⟨ga, e, hg, hbx⟩ := h4 hf
  exact ⟨ga, e, hg, hbx.below hb hbx.lt⟩
theorem AttI.conv {wr W : World} {av a1 a2 : ByteArray} {f : Nat → Bool} {t : Nat → Value} {x : Value} (h : AttI wr av a1 a2 f t W) (hs : Sl W x (u8s av.data.toList)) : AttI wr av a1 a2 (updF f 19) (updT t 19 x) W :=
  ⟨h.1, fun _ _ => by rw [updT_same]; exact hs, h.2.2.1, h.2.2.2⟩
theorem AttI.right {wr W : World} {av a1 a2 : ByteArray} {f : Nat → Bool} {t : Nat → Value} {x : Value} (h : AttI wr av a1 a2 f t W) : AttI wr av a1 a2 (updF f 20) (updT t 20 x) W :=
  ⟨h.1, h.2.1, fun hf => ⟨(h.2.2.1 hf).1, updF_same _ _⟩, h.2.2.2⟩
theorem AttI.made {wr W : World} {av a1 a2 : ByteArray} {f : Nat → Bool} {t : Nat → Value} (h : AttI wr av a1 a2 f t W) (hf : f 22 = false) :
    AttI wr av a1 a2 (updF f 22) (updT t 22 (.pointer (some ⟨W.heap.size, 0, none⟩))) (W.alloc (.cells #[.string ⟨#[]⟩, .string ⟨#[]⟩] 44)) := by
  have h23 : f 23 = false := by
    cases h2 : f 23
    · rfl
    · rw [(h.2.2.1 h2).1] at hf; cases hf
  have hb : Below W.heap.size W (W.alloc (.cells #[.string ⟨#[]⟩, .string ⟨#[]⟩] 44)) := (Below.refl _ _).alloc (Nat.le_refl _) _
  have hn := h.next hb
  refine ⟨hn.1, hn.2.1, fun h => ⟨updF_same _ _, (hn.2.2.1 h).2⟩, fun _ => ⟨W.heap.size, rfl, h.1.size, ?_⟩⟩
  rw [updF_ne f (by decide), h23]
  exact Box.new W 44 [.string ⟨#[]⟩, .string ⟨#[]⟩]
theorem AttI.put {wr W : World} {av a1 a2 : ByteArray} {f : Nat → Bool} {t : Nat → Value} {ga : Nat} {v : Value} (h : AttI wr av a1 a2 f t W) (hf : f 22 = true) (hf2 : f 20 = true) (ht : t 22 = .pointer (some ⟨ga, 0, none⟩)) (hg : wr.heap.size ≤ ga) (hbx : Box W ga 44 [.string ⟨#[]⟩, .string ⟨#[]⟩]) :
    AttI wr av a1 a2 (updF f 23) (updT t 23 v) ((W.setCell ⟨ga, 0, none⟩ (.string a1)).setCell ⟨ga, 1, none⟩ (.string a2)) := by
  refine ⟨(h.1.setCell (p := ⟨ga, 0, none⟩) hg _).setCell (p := ⟨ga, 1, none⟩) hg _, (fun _ hf23 => by rw [updF_same] at hf23; cases hf23), fun _ => ⟨by rw [updF_ne f (by decide)]; exact hf, by rw [updF_ne f (by decide)]; exact hf2⟩, fun _ => ⟨ga, by rw [updT_ne t v (by decide)]; exact ht, hg, ?_⟩⟩
  rw [updF_same]
  exact (hbx.set 0 (.string a1)).set 1 (.string a2)
theorem cell_alloc_swap {w : World} {o o' : Obj} {b c : Nat} {v : Value} (h : (w.alloc o).cell? ⟨b, c, none⟩ = some v) (hb : b < w.heap.size) : (w.alloc o').cell? ⟨b, c, none⟩ = some v := by
  have h1 := ((Below.refl w.heap.size w).alloc (Nat.le_refl _) o).cell (p := ⟨b, c, none⟩) hb
  have h2 := ((Below.refl w.heap.size w).alloc (Nat.le_refl _) o').cell (p := ⟨b, c, none⟩) hb
  rw [h2, ← h1]; exact h
theorem cell_of_below {B : Nat} {w w' : World} (hb : Below B w w') {b o : Nat} {v : Value} (h : w.cell? ⟨b, o, none⟩ = some v) (hlt : b < B) : w'.cell? ⟨b, o, none⟩ = some v := (hb.cell (p := ⟨b, o, none⟩) hlt).trans h
set_option maxHeartbeats 8000000 in
set_option maxRecDepth 100000 in
theorem ref03good (wt : Nat) : ∀ (S : Nat → Prop) (v : Value) (l : List Nd) (w : World), M3.weight l < wt → M3.weight l ≤ 1000000 → Sm30 l → (∀ b, S b → b < w.heap.size) → RepN S w v l →
    Calls Try.prog 50 #[v] w (FreshPost (M3.good l) w) := by
  induction wt with
  | zero => intro S v l w h; omega
  | succ wt ih =>
  intro S v l w hwt hw6 hsm hS hr
  have hll := M3.length_le_weight l
  obtain ⟨a, cap, rfl⟩ := hr.slice
  obtain ⟨_, hlc, hcm⟩ := hr.len
  replace ih := Lib.hid ih
  replace hsm := Lib.hid hsm
  go_enter Try.func50, Try.ntmps50
  go_wp2_with fail
  go_loopw [3, 4, 5, 6, 7, 8, 9] (fun u3 u4 _ _ _ _ _ wr => ∃ i : Nat, i ≤ l.length ∧ u4 = .int .i64 (i : Int) ∧ Fresh wr w.heap.size u3 (M3.goodN (l.take i)) ∧ Below w.heap.size w wr) (fun _ u4 _ _ _ _ _ _ => l.length - (intOf u4).toNat)
  case atStart => exact ⟨0, by omega, rfl, by rw [List.take_zero, M3.goodN_nil]; exact Fresh.nil _ _, Below.refl _ _⟩
  case round =>
    obtain ⟨i, hi, rfl, hf, hb⟩ := hrel
    have hz := hb.size
    by_cases hlt : i < l.length
    · obtain ⟨b, off, va, vk, rfl, hSb, c0, c1, c2, c3, c4, hrv⟩ := (hr.below hS hb).at_ i hlt
      have hbl := hS b hSb
      obtain ⟨hs1, hs2⟩ := sm_iff.1 hsm.out _ (List.getElem_mem hlt)
      have hwk := weight_mem (List.getElem_mem hlt)
      have hwx := weight_le (List.getElem_mem hlt)
      have hgt : M3.goodN (l.take (i + 1)) = M3.goodN (l.take i) ++ [M3.good1 l[i]] := by rw [List.take_succ_eq_append_getElem hlt, M3.goodN_map, M3.goodN_map, List.map_append]; rfl
      have hAl : (M3.goodN (l.take i)).length ≤ 1000000 := by rw [good_len]; have := List.length_take_le i l; omega
      generalize l[i] = x at *
      replace hgt := Lib.hid hgt
      generalize hA : M3.goodN (l.take i) = A at *
      replace hA := Lib.hid hA
      obtain ⟨a1, e1, rfl⟩ := hrv.at_.slice
      obtain ⟨a2, e2, rfl⟩ := hrv.kids.slice
      have hI0 : (0 : Int) ≤ (i : Int) := by omega
      have hI1 : (i : Int) < (l.length : Int) := by omega
      obtain ⟨wo, rfl⟩ : ∃ wo : World, wo = wr := ⟨_, rfl⟩
      cases x with | mk kd n ats t ks =>
      simp only [Nd.kind, Nd.name, Nd.text, Nd.attrs, Nd.kids] at *
      have hat0 : Row S wo 2 (.slice a1 ats.length e1) ats.length (cellsA ats) := hrv.at_
      have hkd0 : RepN S wo (.slice a2 ks.length e2) ks := hrv.kids
      replace hkd0 := Lib.hid hkd0
      clear hrv
      obtain ⟨zs, F, hownA, hocA, hspA⟩ := hf
      replace hocA := Lib.hid hocA
      replace hspA := Lib.hid hspA
      have hg1 := M3.good1_mk kd n ats t ks
      have hts : t.size ≤ 30 := hs1.2.1
      have hns : n.size ≤ 30 := hs1.1
      have has : ∀ a ∈ ats, a.name.size ≤ 30 ∧ a.value.size ≤ 30 := hs1.2.2
      replace has := Lib.hid has
      have hblo : b < wo.heap.size := by omega
      by_cases hk1 : M3.kindN kd = 1
      · rw [if_pos hk1] at hg1
        have hkq : Hid ((decide (kd < 1) || decide (3 < kd)) = true ∨ kd = 1) := by
          show _ ∨ _
          unfold M3.kindN at hk1
          by_cases h : kd < 1 ∨ 3 < kd
          · left; simpa using h
          · right; rw [if_neg h] at hk1; exact hk1
        go_upto_region 6 with (fail)
        go_cut [29] from 10 to 110 (fun s29 wx => s29 = .bool (decide (kd < 1) || decide (3 < kd)) ∧ wx = wo.alloc (.cells #[.int .i64 kd, .string ⟨#[]⟩, .slice none 0 0, .string ⟨#[]⟩, .slice none 0 0] 40))
        case first =>
          by_cases h1 : kd < 1
          · go_wp2_with fail
            go_meet
            case rel => exact ⟨by rw [show decide (kd < 1) = true from decide_eq_true (by omega)]; rfl, rfl⟩
          · go_wp2_with fail
            go_meet
            case rel => exact ⟨by rw [show decide (kd < 1) = false from decide_eq_false (by omega)]; rfl, rfl⟩
        case rest =>
          obtain ⟨rfl, rfl⟩ := hcut
          go_upto_if 29 with (fail)
          go_cut [] from 10 to 110 (fun wx => wx = wo.alloc (.cells #[.int .i64 1, .string ⟨#[]⟩, .slice none 0 0, .string ⟨#[]⟩, .slice none 0 0] 40))
          case first =>
            generalize hq : (decide (kd < 1) || decide (3 < kd)) = q at *
            cases q
            · obtain rfl : kd = 1 := by rcases hkq.out with h | h; cases h; exact h
              go_wp2_with fail
              go_meet
              case rel => rfl
            · go_wp2_with fail
              go_meet
              case rel => rfl
          case rest =>
            have hbx1 := Box.new wo 40 [.int .i64 1, .string ⟨#[]⟩, .slice none 0 0, .string ⟨#[]⟩, .slice none 0 0]
            have hbo1 : Below wo.heap.size wo (wo.alloc (.cells #[.int .i64 1, .string ⟨#[]⟩, .slice none 0 0, .string ⟨#[]⟩, .slice none 0 0] 40)) := (Below.refl _ _).alloc (Nat.le_refl _) _
            have hso : (wo.alloc (.cells #[.int .i64 1, .string ⟨#[]⟩, .slice none 0 0, .string ⟨#[]⟩, .slice none 0 0] 40)).heap.size = wo.heap.size + 1 := by simp
            change Box (wo.alloc (.cells #[.int .i64 1, .string ⟨#[]⟩, .slice none 0 0, .string ⟨#[]⟩, .slice none 0 0] 40)) _ _ _ at hbx1
            rw [← hcut] at hbx1 hbo1 hso
            clear hcut
            have r1 := (hbo1.cell (p := ⟨b, off + i * 5 + 1, none⟩) hblo).trans c1
            have q0 := hbx1.cell (i := 0) rfl
            have hWd := Lib.hid (ref03Word n wc (by omega))
            have hwn := M3.wordN_size n 30 hns (by omega)
            generalize M3.wordN n = nm at *
            replace hso := Lib.hid hso
            go_wp2_with fail
            refine hWd.out.mono ?_
            rintro e w2 ⟨rfl, hb2⟩
            have hz2 := hb2.size
            have hbo2 : Below wo.heap.size wo w2 := hbo1.trans (hb2.mono (by have := hso.out; omega))
            have hbx2 := hbx1.below hb2 hbx1.lt
            have d1 := hbx2.cell (i := 1) rfl
            have f1 := hbx2.free 1
            clear hWd hbx1 hbo1 hb2 q0 r1
            go_wp2_with fail
            have hbx3 := hbx2.set 1 (.string nm)
            have hbo3 : Below wo.heap.size wo (w2.setCell ⟨wo.heap.size, 1, none⟩ (.string nm)) := hbo2.setCell (p := ⟨wo.heap.size, 1, none⟩) (Nat.le_refl _) _
            simp only [List.set_cons_succ, List.set_cons_zero] at hbx3
            obtain ⟨W3, hW3⟩ : ∃ W3, w2.setCell ⟨wo.heap.size, 1, none⟩ (.string nm) = W3 := ⟨_, rfl⟩
            rw [hW3] at hbx3 hbo3 ⊢
            clear hW3 hbx2 hbo2 d1 f1
            go_loopw [6, 7, 8, 9] (fun u6 _ _ _ wr => ∃ (k : Nat) (acc : List Att) (va : Value), k ≤ ats.length ∧ u6 = .int .i64 (k : Int) ∧ Box wr wo.heap.size 40 [.int .i64 1, .string nm, va, .string ⟨#[]⟩, .slice none 0 0] ∧ wr.ownsRow (wo.heap.size + 1) 44 2 va acc.length (cellsA acc) ∧ Hid (acc = M3.goodA (ats.take k)) ∧ Below wo.heap.size wo wr) (fun u6 _ _ _ _ => ats.length - (intOf u6).toNat)
            case atStart => exact ⟨0, [], _, by omega, rfl, hbx3, World.ownsRow_nil _ _ _ _, rfl, hbo3⟩
            case round =>
              obtain ⟨k, acc, va, hk, rfl, hbx, hown, hacc, hbo⟩ := hrel
              have hz3 := hbo.size
              have hgl := hbx.lt
              have r2 := (hbo.cell (p := ⟨b, off + i * 5 + 2, none⟩) hblo).trans c2
              clear hbx3 hbo3
              by_cases hkl : k < ats.length
              · obtain ⟨ab, aoff, rfl, hSab, p0, p1⟩ := (hat0.below (fun c hc => by have := hS c hc; omega) hbo).atA k hkl
                have habl := hS ab hSab
                obtain ⟨hsa, hsv⟩ := has.out _ (List.getElem_mem hkl)
                have htk : M3.goodA (ats.take (k + 1)) = M3.addA (M3.goodA (ats.take k)) ats[k] := by rw [List.take_succ_eq_append_getElem hkl, M3.goodA_snoc]
                have hacl : acc.length ≤ k := by rw [hacc.out]; have := M3.goodA_len (ats.take k); have := List.length_take_le k ats; omega
                have hadd : M3.addA acc ats[k] = if (M3.valueOf (M3.attrN ats[k].name) acc).isSome then acc else acc ++ [⟨M3.attrN ats[k].name, M3.rightN ats[k].value⟩] := rfl
                rw [← hacc.out, hadd] at htk
                clear hadd
                have hAt := Lib.hid (fun W => ref03Attribute ats[k].name W (by omega))
                generalize ats[k].name = an at *
                generalize ats[k].value = av at *
                have hK0 : (0 : Int) ≤ (k : Int) := by omega
                have hK1 : (k : Int) < (ats.length : Int) := by omega
                replace htk := Lib.hid htk
                go_upto_region 15 with (fail)
                refine wp_region_known (n := 24) ([some (.slice (some ⟨b, off, none⟩) l.length cap), some (.int .i64 (i : Int)), some (.pointer (some ⟨b, off + i * 5, none⟩)), some (.pointer (some ⟨b, off + i * 5 + 2, none⟩)), some (.slice (some ⟨ab, aoff, none⟩) ats.length e1), some (.int .i64 (k : Int)), some (.pointer (some ⟨ab, aoff + k * 2, none⟩)), some (.pointer (some ⟨ab, aoff + k * 2, none⟩)), some (.string an), some (.string (M3.attrN an)), some (.slice (some ⟨b, off, none⟩) l.length cap), some (.int .i64 (i : Int)), some (.pointer (some ⟨b, off + i * 5, none⟩)), some (.pointer (some ⟨b, off + i * 5 + 2, none⟩)), some (.slice (some ⟨ab, aoff, none⟩) ats.length e1), some (.int .i64 (k : Int)), some (.pointer (some ⟨ab, aoff + k * 2, none⟩)), some (.pointer (some ⟨ab, aoff + k * 2 + 1, none⟩)), some (.string av), none, some (.string ⟨(M1.right av.data.toList).toArray⟩), some (.agg #[.string (M3.attrN an), .string ⟨(M1.right av.data.toList).toArray⟩]), none, none] : List (Option Value)) (fun t => ⟨#[Value.slice (some { block := b, off := off }) l.length cap, undef, Value.slice none 0 0, u3, Value.int IntKind.i64 ↑i, Value.pointer (some { block := wo.heap.size, off := 0 }), Value.int IntKind.i64 ↑k, t 22, u8, u9, u10, u11, u12, u13, u14, u15, u16, u17, u18, u19, u20, u21, u22, u23, u24, u25, u26, u27, u28, u29, u30, Value.pointer (some { block := wo.heap.size, off := 0 }), Value.int IntKind.i64 1, Value.bool false, u34, u35, u36, u37, u38, u39, u40, u41, u42, u43, u44, u45, Value.slice (some { block := b, off := off }) l.length cap, Value.int IntKind.i64 ↑i, Value.pointer (some { block := b, off := off + i * 5 }), Value.pointer (some { block := b, off := off + i * 5 + 1 }), Value.string n, Value.string nm, Value.pointer (some { block := wo.heap.size, off := 1 }), Value.int IntKind.i64 ↑k, Value.slice (some { block := b, off := off }) l.length cap, Value.int IntKind.i64 ↑i, Value.pointer (some { block := b, off := off + i * 5 }), Value.pointer (some { block := b, off := off + i * 5 + 2 }), Value.slice (some { block := ab, off := aoff }) ats.length e1, Value.int IntKind.i64 ↑ats.length, Value.bool true, u61, u62, t 0, t 1, t 2, t 3, t 4, t 5, t 6, t 7, t 8, t 9, t 10, t 11, t 12, t 13, t 14, t 15, t 16, t 17, t 18, t 19, t 20, t 21, u85, u86, u87, u88, u89, u90, u91, u92, u93, u94, u95, u96, u97, u98, u99, u100, u101, u102, u103, u104, u105, u106, u107, u108, u109, u110, undef, undef], []⟩) (fun f t W => AttI wr av (M3.attrN an) ⟨(M1.right av.data.toList).toArray⟩ f t W) (fun j => match j with | 0 => u63 | 1 => u64 | 2 => u65 | 3 => u66 | 4 => u67 | 5 => u68 | 6 => u69 | 7 => u70 | 8 => u71 | 9 => u72 | 10 => u73 | 11 => u74 | 12 => u75 | 13 => u76 | 14 => u77 | 15 => u78 | 16 => u79 | 17 => u80 | 18 => u81 | 19 => u82 | 20 => u83 | 21 => u84 | 22 => u7 | _ => undef) (by kernel_rfl) (by rfl) (by rfl) (by kernel_rfl) rfl ?i0 ?step ?fin
                case i0 =>
                  exact AttI.start _ _ _ _ _ (by simp) (by simp) (by simp)
                case step =>
                  intro i hi f t W hfi hwt hk hI
                  have s0 := cell_of_below hI.1 r2 (by omega)
                  have s1 := cell_of_below hI.1 p0 (by omega)
                  have s2 := cell_of_below hI.1 p1 (by omega)
                  obtain rfl | rfl | rfl | rfl | rfl | rfl | rfl | rfl | rfl | rfl | rfl | rfl | rfl | rfl | rfl | rfl | rfl | rfl | rfl | rfl | rfl | rfl | rfl | rfl : i = 0 ∨ i = 1 ∨ i = 2 ∨ i = 3 ∨ i = 4 ∨ i = 5 ∨ i = 6 ∨ i = 7 ∨ i = 8 ∨ i = 9 ∨ i = 10 ∨ i = 11 ∨ i = 12 ∨ i = 13 ∨ i = 14 ∨ i = 15 ∨ i = 16 ∨ i = 17 ∨ i = 18 ∨ i = 19 ∨ i = 20 ∨ i = 21 ∨ i = 22 ∨ i = 23 := by omega
                  · -- operation 0
                    replace hI := Lib.hid hI
                    replace hk := Lib.hid hk
                    clear hwt
                    refine wpOp_step rfl (fun K hK => ?_)
                    go_simp
                    exact hK _ _ ⟨_, by simp [updT], hk.out.at_ rfl, hI.out⟩
                  · -- operation 1
                    replace hI := Lib.hid hI
                    replace hk := Lib.hid hk
                    clear hwt
                    refine wpOp_step rfl (fun K hK => ?_)
                    go_simp
                    exact hK _ _ ⟨_, by simp [updT], hk.out.at_ rfl, hI.out⟩
                  · -- operation 2
                    have e0 : t 0 = .slice (some ⟨b, off, none⟩) l.length cap := hk 0 _ (hwt 0 (by kernel_rfl)) rfl
                    have e1 : t 1 = .int .i64 (i : Int) := hk 1 _ (hwt 1 (by kernel_rfl)) rfl
                    replace hI := Lib.hid hI
                    replace hk := Lib.hid hk
                    clear hwt
                    refine wpOp_step rfl (fun K hK => ?_)
                    go_simp
                    exact hK _ _ ⟨_, by simp [updT, e0, e1], hk.out.at_ rfl, hI.out⟩
                  · -- operation 3
                    have e2 : t 2 = .pointer (some ⟨b, off + i * 5, none⟩) := hk 2 _ (hwt 2 (by kernel_rfl)) rfl
                    replace hI := Lib.hid hI
                    replace hk := Lib.hid hk
                    clear hwt
                    refine wpOp_step rfl (fun K hK => ?_)
                    go_simp
                    exact hK _ _ ⟨_, by simp [updT, e2], hk.out.at_ rfl, hI.out⟩
                  · -- operation 4
                    have e3 : t 3 = .pointer (some ⟨b, off + i * 5 + 2, none⟩) := hk 3 _ (hwt 3 (by kernel_rfl)) rfl
                    replace hI := Lib.hid hI
                    replace hk := Lib.hid hk
                    clear hwt
                    refine wpOp_step rfl (fun K hK => ?_)
                    go_simp
                    exact hK _ _ ⟨_, by simp [updT, e3], hk.out.at_ rfl, hI.out⟩
                  · -- operation 5
                    replace hI := Lib.hid hI
                    replace hk := Lib.hid hk
                    clear hwt
                    refine wpOp_step rfl (fun K hK => ?_)
                    go_simp
                    exact hK _ _ ⟨_, by simp [updT], hk.out.at_ rfl, hI.out⟩
                  · -- operation 6
                    have e4 : t 4 = .slice (some ⟨ab, aoff, none⟩) ats.length e1 := hk 4 _ (hwt 4 (by kernel_rfl)) rfl
                    have e5 : t 5 = .int .i64 (k : Int) := hk 5 _ (hwt 5 (by kernel_rfl)) rfl
                    replace hI := Lib.hid hI
                    replace hk := Lib.hid hk
                    clear hwt
                    refine wpOp_step rfl (fun K hK => ?_)
                    go_simp
                    exact hK _ _ ⟨_, by simp [updT, e4, e5], hk.out.at_ rfl, hI.out⟩
                  · -- operation 7
                    have e6 : t 6 = .pointer (some ⟨ab, aoff + k * 2, none⟩) := hk 6 _ (hwt 6 (by kernel_rfl)) rfl
                    replace hI := Lib.hid hI
                    replace hk := Lib.hid hk
                    clear hwt
                    refine wpOp_step rfl (fun K hK => ?_)
                    go_simp
                    exact hK _ _ ⟨_, by simp [updT, e6], hk.out.at_ rfl, hI.out⟩
                  · -- operation 8
                    have e7 : t 7 = .pointer (some ⟨ab, aoff + k * 2, none⟩) := hk 7 _ (hwt 7 (by kernel_rfl)) rfl
                    replace hI := Lib.hid hI
                    replace hk := Lib.hid hk
                    clear hwt
                    refine wpOp_step rfl (fun K hK => ?_)
                    go_simp
                    exact hK _ _ ⟨_, by simp [updT, e7], hk.out.at_ rfl, hI.out⟩
                  · -- operation 9
                    have e8 : t 8 = .string an := hk 8 _ (hwt 8 (by kernel_rfl)) rfl
                    replace hk := Lib.hid hk
                    replace hI := Lib.hid hI
                    clear hwt
                    refine wpOp_step rfl (fun K hK => ?_)
                    go_simp
                    refine (hAt.out _).mono ?_
                    rintro e w5 ⟨rfl, hb5⟩
                    exact hK _ _ ⟨_, by simp [updT, e8], hk.out.at_ rfl, hI.out.next hb5⟩
                  · -- operation 10
                    replace hI := Lib.hid hI
                    replace hk := Lib.hid hk
                    clear hwt
                    refine wpOp_step rfl (fun K hK => ?_)
                    go_simp
                    exact hK _ _ ⟨_, by simp [updT], hk.out.at_ rfl, hI.out⟩
                  · -- operation 11
                    replace hI := Lib.hid hI
                    replace hk := Lib.hid hk
                    clear hwt
                    refine wpOp_step rfl (fun K hK => ?_)
                    go_simp
                    exact hK _ _ ⟨_, by simp [updT], hk.out.at_ rfl, hI.out⟩
                  · -- operation 12
                    have e10 : t 10 = .slice (some ⟨b, off, none⟩) l.length cap := hk 10 _ (hwt 10 (by kernel_rfl)) rfl
                    have e11 : t 11 = .int .i64 (i : Int) := hk 11 _ (hwt 11 (by kernel_rfl)) rfl
                    replace hI := Lib.hid hI
                    replace hk := Lib.hid hk
                    clear hwt
                    refine wpOp_step rfl (fun K hK => ?_)
                    go_simp
                    exact hK _ _ ⟨_, by simp [updT, e10, e11], hk.out.at_ rfl, hI.out⟩
                  · -- operation 13
                    have e12 : t 12 = .pointer (some ⟨b, off + i * 5, none⟩) := hk 12 _ (hwt 12 (by kernel_rfl)) rfl
                    replace hI := Lib.hid hI
                    replace hk := Lib.hid hk
                    clear hwt
                    refine wpOp_step rfl (fun K hK => ?_)
                    go_simp
                    exact hK _ _ ⟨_, by simp [updT, e12], hk.out.at_ rfl, hI.out⟩
                  · -- operation 14
                    have e13 : t 13 = .pointer (some ⟨b, off + i * 5 + 2, none⟩) := hk 13 _ (hwt 13 (by kernel_rfl)) rfl
                    replace hI := Lib.hid hI
                    replace hk := Lib.hid hk
                    clear hwt
                    refine wpOp_step rfl (fun K hK => ?_)
                    go_simp
                    exact hK _ _ ⟨_, by simp [updT, e13], hk.out.at_ rfl, hI.out⟩
                  · -- operation 15
                    replace hI := Lib.hid hI
                    replace hk := Lib.hid hk
                    clear hwt
                    refine wpOp_step rfl (fun K hK => ?_)
                    go_simp
                    exact hK _ _ ⟨_, by simp [updT], hk.out.at_ rfl, hI.out⟩
                  · -- operation 16
                    have e14 : t 14 = .slice (some ⟨ab, aoff, none⟩) ats.length e1 := hk 14 _ (hwt 14 (by kernel_rfl)) rfl
                    have e15 : t 15 = .int .i64 (k : Int) := hk 15 _ (hwt 15 (by kernel_rfl)) rfl
                    replace hI := Lib.hid hI
                    replace hk := Lib.hid hk
                    clear hwt
                    refine wpOp_step rfl (fun K hK => ?_)
                    go_simp
                    exact hK _ _ ⟨_, by simp [updT, e14, e15], hk.out.at_ rfl, hI.out⟩
                  · -- operation 17
                    have e16 : t 16 = .pointer (some ⟨ab, aoff + k * 2, none⟩) := hk 16 _ (hwt 16 (by kernel_rfl)) rfl
                    replace hI := Lib.hid hI
                    replace hk := Lib.hid hk
                    clear hwt
                    refine wpOp_step rfl (fun K hK => ?_)
                    go_simp
                    exact hK _ _ ⟨_, by simp [updT, e16], hk.out.at_ rfl, hI.out⟩
                  · -- operation 18
                    have e17 : t 17 = .pointer (some ⟨ab, aoff + k * 2 + 1, none⟩) := hk 17 _ (hwt 17 (by kernel_rfl)) rfl
                    replace hI := Lib.hid hI
                    replace hk := Lib.hid hk
                    clear hwt
                    refine wpOp_step rfl (fun K hK => ?_)
                    go_simp
                    exact hK _ _ ⟨_, by simp [updT, e17], hk.out.at_ rfl, hI.out⟩
                  · -- operation 19
                    have e18 : t 18 = .string av := hk 18 _ (hwt 18 (by kernel_rfl)) rfl
                    replace hk := Lib.hid hk
                    replace hI := Lib.hid hI
                    clear hwt
                    obtain ⟨x1, w1, hc1, y1, b1⟩ := conv_bytes W av (by omega)
                    refine wpOp_step rfl (fun K hK => ?_)
                    go_simp
                    exact hK _ _ ⟨_, by simp [updT, e18], hk.out.free rfl, (hI.out.next b1).conv y1⟩
                  · -- operation 20
                    have hf23 : f 23 = false := by
                      cases h2 : f 23
                      · rfl
                      · rw [(hI.2.2.1 h2).2] at hfi; cases hfi
                    have hsl := hI.2.1 (hwt 19 (by kernel_rfl)) hf23
                    replace hf23 := Lib.hid hf23
                    have hR := Lib.hid (ref01Right (t 19) av.data.toList W hsl (by show av.size ≤ _; omega))
                    replace hk := Lib.hid hk
                    replace hI := Lib.hid hI
                    clear hwt
                    refine wpOp_step rfl (fun K hK => ?_)
                    go_simp
                    refine hR.out.mono ?_
                    rintro e w5 ⟨rfl, hb5⟩
                    exact hK _ _ ⟨_, by simp [updT], hk.out.at_ rfl, (hI.out.next hb5).right⟩
                  · -- operation 21
                    have e9 : t 9 = .string (M3.attrN an) := hk 9 _ (hwt 9 (by kernel_rfl)) rfl
                    have e20 : t 20 = .string ⟨(M1.right av.data.toList).toArray⟩ := hk 20 _ (hwt 20 (by kernel_rfl)) rfl
                    replace hI := Lib.hid hI
                    replace hk := Lib.hid hk
                    clear hwt
                    refine wpOp_step rfl (fun K hK => ?_)
                    go_simp
                    exact hK _ _ ⟨_, by simp [updT, e9, e20], hk.out.at_ rfl, hI.out⟩
                  · -- operation 22
                    replace hk := Lib.hid hk
                    replace hI := Lib.hid hI
                    clear hwt
                    refine wpOp_step rfl (fun K hK => ?_)
                    go_simp
                    exact hK _ _ ⟨_, by simp [updT], hk.out.free rfl, hI.out.made hfi⟩
                  · -- operation 23
                    have e21 : t 21 = .agg #[.string (M3.attrN an), .string ⟨(M1.right av.data.toList).toArray⟩] := hk 21 _ (hwt 21 (by kernel_rfl)) rfl
                    obtain ⟨ga, e22, hga, hbx⟩ := hI.2.2.2 (hwt 22 (by kernel_rfl))
                    rw [hfi] at hbx
                    change Box W ga _ [.string ⟨#[]⟩, .string ⟨#[]⟩] at hbx
                    have y0 := hbx.cell (i := 0) rfl
                    have y1 := hbx.cell (i := 1) rfl
                    have z0 := hbx.free 0
                    have z1 := hbx.free 1
                    have f22 := Lib.hid (hwt 22 (by kernel_rfl))
                    have f20 := Lib.hid (hwt 20 (by kernel_rfl))
                    replace hk := Lib.hid hk
                    replace hI := Lib.hid hI
                    clear hwt
                    refine wpOp_step rfl (fun K hK => ?_)
                    go_simp
                    exact hK _ _ ⟨undef, by simp [updT, e21, e22], hk.out.free rfl, hI.out.put f22.out f20.out e22 hga hbx⟩
                case fin =>
                  intro f t W hall hk hI
                  obtain ⟨ga, e22, hga, hba⟩ := hI.2.2.2 (hall 22 (by omega))
                  rw [hall 23 (by omega)] at hba
                  change Box W ga _ [.string (M3.attrN an), .string ⟨(M1.right av.data.toList).toArray⟩] at hba
                  have hB := hI.1
                  clear hk hI hall hAt
                  dsimp only
                  rw [e22]
                  have hrr : (⟨(M1.right av.data.toList).toArray⟩ : ByteArray) = M3.rightN av := rfl
                  rw [hrr] at hba
                  clear hrr p0 p1 r2 e22
                  generalize M3.attrN an = an2 at *
                  generalize M3.rightN av = av2 at *
                  have hbn := hbx.below hB hgl
                  have hownW := own_below3 hown hB
                  obtain ⟨a6, e6, rfl⟩ := own_slice hown
                  have n0 := hbn.cell (i := 0) rfl
                  have n1 := hbn.cell (i := 1) rfl
                  have n2 := hbn.cell (i := 2) rfl
                  have n3 := hbn.cell (i := 3) rfl
                  have n4 := hbn.cell (i := 4) rfl
                  have m0 := hba.cell (i := 0) rfl
                  have m1 := hba.cell (i := 1) rfl
                  have hrowW : Row (fun b => b < W.heap.size) W 2 (.slice a6 acc.length e6) acc.length (cellsA acc) := Row.own hownW (fun g hg => (hownW.lt g hg).2)
                  have hVl := Lib.hid (ref03Value (fun b => b < W.heap.size) (.mk 1 nm acc ⟨#[]⟩ []) (.slice a6 acc.length e6) (.slice none 0 0) an2 W (fun _ h => h) hrowW ⟨_, _, _, rfl⟩)
                  have hboW : Below wo.heap.size wo W := hbo.trans (hB.mono hz3)
                  replace hownW := Lib.hid hownW
                  replace hown := Lib.hid hown
                  clear hbx hrowW
                  obtain ⟨o, ho⟩ : ∃ o, M3.valueOf an2 acc = o := ⟨_, rfl⟩
                  change Hid (Calls Try.prog 27 #[Value.agg #[.int .i64 1, .string nm, .slice a6 acc.length e6, .string ⟨#[]⟩, .slice none 0 0], .string an2] W fun e w' => e = .returned (valAns (M3.valueOf an2 acc)) ∧ Below W.heap.size W w') at hVl
                  rw [ho] at hVl htk
                  clear ho
                  go_wp2_with fail
                  cases o with
                  | some sv =>
                    replace htk : Hid (M3.goodA (ats.take (k + 1)) = acc) := htk
                    change Hid (Calls Try.prog 27 #[Value.agg #[.int .i64 1, .string nm, .slice a6 acc.length e6, .string ⟨#[]⟩, .slice none 0 0], .string an2] W fun e w' => e = .returned (.tuple #[.string sv, .bool true]) ∧ Below W.heap.size W w') at hVl
                    refine hVl.out.mono ?_
                    rintro e w6 ⟨rfl, hb6⟩
                    have hbo6 : Below wo.heap.size wo w6 := hboW.trans (hb6.mono (by have := hB.size; omega))
                    have hbn6 := hbn.below hb6 hbn.lt
                    have hown6 := own_below3 hownW.out hb6
                    clear hVl hbn hba n0 n1 n2 n3 n4 m0 m1
                    go_wp2_with fail
                    go_roundw
                    case rel => exact ⟨k + 1, acc, _, by omega, by go_num, hbn6, hown6, by show _ = _; rw [htk.out], hbo6⟩
                    case measure => exact meas_nat hkl
                  | none =>
                    replace htk : Hid (M3.goodA (ats.take (k + 1)) = acc ++ [⟨an2, av2⟩]) := htk
                    change Hid (Calls Try.prog 27 #[Value.agg #[.int .i64 1, .string nm, .slice a6 acc.length e6, .string ⟨#[]⟩, .slice none 0 0], .string an2] W fun e w' => e = .returned (.tuple #[.string ⟨#[]⟩, .bool false]) ∧ Below W.heap.size W w') at hVl
                    refine hVl.out.mono ?_
                    rintro e w6 ⟨rfl, hb6⟩
                    have hbo6 : Below wo.heap.size wo w6 := hboW.trans (hb6.mono (by have := hB.size; omega))
                    have hbn6 := hbn.below hb6 hbn.lt
                    have hba6 := hba.below hb6 hba.lt
                    have hown6 := own_below3 hownW.out hb6
                    have hgl6 := hbn6.lt
                    clear hVl hbn hba n0 n1 n2 n3 n4 m0 m1
                    have n2 := hbn6.cell (i := 2) rfl
                    have m0 := hba6.cell (i := 0) rfl
                    have m1 := hba6.cell (i := 1) rfl
                    have hbo6z : wo.heap.size + 1 ≤ w6.heap.size := by omega
                    go_wp2_with (at_builtin; refine wpList_appK _ [.string an2, .string av2] 2 rfl _ _ 29 44 rfl (wo.heap.size + 1) Try.underlying29 infoA rfl (by omega) _ acc.length (cellsA acc) rfl hown6 _ rfl rfl rfl (by simp [Value.oneCell']) (by omega) (by omega) hbo6z ?_; intro g cp w7 hown7 hgrow7 hat7; have hbn7 := hbn6.keep (hgrow7.block _ hgl6 (fun e => by have := (hown6.lt _ e.symm).1; omega)); have k2 := hbn7.cell (i := 2) rfl; have kf2 := hbn7.free 2)
                    have hbo7 : Below wo.heap.size wo w7 := hbo6.grown hgrow7 (by omega) (fun k hk => by have := (hown6.lt k hk).1; omega)
                    have hbn8 := hbn7.set 2 (.slice (some ⟨g, 0, none⟩) (acc.length + 1) cp)
                    simp only [List.set_cons_succ, List.set_cons_zero] at hbn8
                    have hbo8 : Below wo.heap.size wo (w7.setCell ⟨wo.heap.size, 2, none⟩ (.slice (some ⟨g, 0, none⟩) (acc.length + 1) cp)) := hbo7.setCell (p := ⟨wo.heap.size, 2, none⟩) (Nat.le_refl _) _
                    have hown8 : (w7.setCell ⟨wo.heap.size, 2, none⟩ (.slice (some ⟨g, 0, none⟩) (acc.length + 1) cp)).ownsRow (wo.heap.size + 1) 44 2 (.slice (some ⟨g, 0, none⟩) (acc.length + 1) cp) (acc ++ ([⟨an2, av2⟩] : List Att)).length (cellsA (acc ++ ([⟨an2, av2⟩] : List Att))) := by
                      rw [cellsA_append, List.length_append]
                      exact own_keep hown7 (fun g' hg' => Below.heap_setCell _ _ _ _ (by have := (hown7.lt g' hg').1; simp; omega))
                    clear hown7 hgrow7 hat7 k2 kf2
                    go_roundw
                    case rel => exact ⟨k + 1, acc ++ [⟨an2, av2⟩], _, by omega, by go_num, hbn8, hown8, by show _ = _; rw [htk.out], hbo8⟩
                    case measure => exact meas_nat hkl
              · obtain rfl : k = ats.length := by omega
                rw [List.take_length] at hacc
                have hgg : M3.good1 (.mk kd n ats t ks) = .mk 1 nm acc ⟨#[]⟩ (M3.good ks) := by rw [hacc.out]; exact hg1
                rw [hgg] at hgt
                have hacl : acc.length ≤ ats.length := by rw [hacc.out]; exact M3.goodA_len ats
                have r4 := (hbo.cell (p := ⟨b, off + i * 5 + 4, none⟩) hblo).trans c4
                obtain ⟨a6, e6, rfl⟩ := own_slice hown
                have hkw : M3.weight ks < wt := by have h0 : M3.weight ks < M3.weight l := hwk; omega
                have hkd := Lib.hid (ih.out S (.slice a2 ks.length e2) ks wr hkw (by omega) hs2 (fun c hc => by have := hS c hc; omega) (hkd0.out.below (fun c hc => by have := hS c hc; omega) hbo))
                clear hg1 hgg hacc c0 c1 c2 c3 c4
                go_wp2_with fail
                refine hkd.out.mono ?_
                rintro e w6 ⟨vk6, rfl, ⟨zk, Fk, hownk, hock, hspk⟩, hb6⟩
                obtain ⟨a7, e7, rfl⟩ := own_slice hownk
                have hbo6 : Below wo.heap.size wo w6 := hbo.trans (hb6.mono hz3)
                have hbn6 := hbx.below hb6 hgl
                have hgl6 := hbn6.lt
                have n0 := hbn6.cell (i := 0) rfl
                have n1 := hbn6.cell (i := 1) rfl
                have n2 := hbn6.cell (i := 2) rfl
                have n3 := hbn6.cell (i := 3) rfl
                have n4 := hbn6.cell (i := 4) rfl
                have nf4 := hbn6.free 4
                have hown6 := own_below3 hown hb6
                have hbo7 : Below wo.heap.size wo (w6.setCell ⟨wo.heap.size, 4, none⟩ (.slice a7 (M3.good ks).length e7)) := hbo6.setCell (p := ⟨wo.heap.size, 4, none⟩) (Nat.le_refl _) _
                have hsz7 : (w6.setCell ⟨wo.heap.size, 4, none⟩ (.slice a7 (M3.good ks).length e7)).heap.size = w6.heap.size := by simp [World.setCell]
                have hfar7 : ∀ c, c ≠ wo.heap.size → (w6.setCell ⟨wo.heap.size, 4, none⟩ (.slice a7 (M3.good ks).length e7)).heap[c]? = w6.heap[c]? := fun c hc => Below.heap_setCell _ _ _ _ (by simpa using hc)
                have hownA7 := own_below3 hownA hbo7
                have hsz8 : w.heap.size ≤ (w6.setCell ⟨wo.heap.size, 4, none⟩ (.slice a7 (M3.good ks).length e7)).heap.size := by omega
                have hown7 := own_keep hown6 (w' := w6.setCell ⟨wo.heap.size, 4, none⟩ (.slice a7 (M3.good ks).length e7)) (fun g hg => hfar7 g (by have := (hown6.lt g hg).1; omega))
                have hownk7 := own_keep hownk (w' := w6.setCell ⟨wo.heap.size, 4, none⟩ (.slice a7 (M3.good ks).length e7)) (fun g hg => hfar7 g (by have := (hownk.lt g hg).1; omega))
                have hock7 := OwnC.keep (w' := w6.setCell ⟨wo.heap.size, 4, none⟩ (.slice a7 (M3.good ks).length e7)) _ _ _ (fun c hc => hfar7 c (by have := (hspk.2 c (by simp [hc])).1; omega)) hock
                have hspa := Span.own hown
                replace hsz7 := Lib.hid hsz7
                replace hown7 := Lib.hid hown7
                replace hownk7 := Lib.hid hownk7
                replace hock7 := Lib.hid hock7
                replace hfar7 := Lib.hid hfar7
                replace hown := Lib.hid hown
                replace hown6 := Lib.hid hown6
                replace hownk := Lib.hid hownk
                clear hkd hock
                go_wp2_with (at_builtin; refine wpList_appK _ [.int .i64 1, .string nm, .slice a6 acc.length e6, .string ⟨#[]⟩, .slice a7 (M3.good ks).length e7] 5 rfl _ _ 37 40 rfl w.heap.size Try.underlying37 infoN rfl (by omega) u3 A.length zs rfl hownA7 w6.heap.size hsz7.out (by rfl) rfl (five_one _ _ _ _ _ _ _ _ _) (by omega) (by omega) hsz8 ?_; intro g cp w5 hown5 hgrow5 hat5)
                have hb5 : Below w.heap.size w w5 := below_own (hb.trans (hbo7.mono hz)) hownA7 hgrow5 hsz8 (Nat.le_refl _)
                have hfr5 : Fresh w5 w.heap.size (.slice (some ⟨g, 0, none⟩) (A.length + 1) cp) (A ++ [.mk 1 nm acc ⟨#[]⟩ (M3.good ks)]) := by
                  refine Fresh.snoc (W := w6.setCell ⟨wo.heap.size, 4, none⟩ (.slice a7 (M3.good ks).length e7)) (mid := wo.heap.size) (F := F) (zs2 := zk) (F2 := Fk) rfl hown5 hgrow5 hat5 (OwnC.keep _ _ _ (fun c h => hbo7.block c (hspA.out.2 c (by simp [h])).2) hocA.out) hspA.out (own_base hown7.out (fun _ _ => Nat.zero_le _)) (own_base hownk7.out (fun _ _ => Nat.zero_le _)) hock7.out ?_ hz (by have := hsz7.out; omega)
                  have h1 := Span.append hspa hspk (by omega) hb6.size
                  exact h1.mono (by omega) (by have := hsz7.out; omega)
                clear hown5 hgrow5 hat5
                go_roundw
                case rel => exact ⟨i + 1, by omega, by go_num, by rw [hgt.out]; exact hfr5, hb5⟩
                case measure => exact meas_nat hlt
      · rw [if_neg hk1] at hg1
        have hkk : M3.kindN kd = kd := by
          unfold M3.kindN at hk1 ⊢
          split at hk1
          · exact absurd rfl hk1
          · rename_i h; rw [if_neg h]
        rw [hkk] at hg1 hk1
        have hk23 : kd = 2 ∨ kd = 3 := by
          have := M3.kindN_in kd
          rw [hkk] at this
          omega
        obtain ⟨x1, w1, hc1, s1, b1⟩ := conv_bytes (wo.alloc (.cells #[.int .i64 kd, .string ⟨#[]⟩, .slice none 0 0, .string ⟨#[]⟩, .slice none 0 0] 40)) t (by omega)
        have hR := Lib.hid (ref01Right x1 _ w1 s1 (by show t.size ≤ _; omega))
        have hkd1 : (kd != 1) = true := by simp [bne]; omega
        have hkd2 : ¬ (kd < 1) := by omega
        have hkd3 : ¬ (3 < kd) := by omega
        have hbx0 := Box.new wo 40 [.int .i64 kd, .string ⟨#[]⟩, .slice none 0 0, .string ⟨#[]⟩, .slice none 0 0]
        have hbo0 : Below wo.heap.size wo (wo.alloc (.cells #[.int .i64 kd, .string ⟨#[]⟩, .slice none 0 0, .string ⟨#[]⟩, .slice none 0 0] 40)) := (Below.refl _ _).alloc (Nat.le_refl _) _
        have hso : (wo.alloc (.cells #[.int .i64 kd, .string ⟨#[]⟩, .slice none 0 0, .string ⟨#[]⟩, .slice none 0 0] 40)).heap.size = wo.heap.size + 1 := by simp
        have hz1 := b1.size
        rw [hso] at hz1
        have hbo1 : Below wo.heap.size wo w1 := hbo0.trans (b1.mono (by omega))
        have hbx1 := (show Box (wo.alloc (.cells #[.int .i64 kd, .string ⟨#[]⟩, .slice none 0 0, .string ⟨#[]⟩, .slice none 0 0] 40)) _ _ _ from hbx0).below b1 (by omega)
        have hgx : M3.good1 (.mk kd n ats t ks) = .mk kd ⟨#[]⟩ [] ⟨(M1.right t.data.toList).toArray⟩ [] := hg1
        have hrl := M1.right_len t.data.toList
        have htl : t.data.toList.length ≤ 30 := hts
        rw [hgx] at hgt
        clear hg1 hgx hbo0 hbx0 b1
        replace hso := Lib.hid hso
        generalize M1.right t.data.toList = rt at *
        go_wp2_with fail
        refine hR.out.mono ?_
        rintro e w2 ⟨rfl, hb2⟩
        have hz2 := hb2.size
        have hbo2 : Below wo.heap.size wo w2 := hbo1.trans (hb2.mono (by omega))
        have hbx2 := hbx1.below hb2 (by omega)
        have d0 := hbx2.cell (i := 0) rfl
        have d1 := hbx2.cell (i := 1) rfl
        have d2 := hbx2.cell (i := 2) rfl
        have d3 := hbx2.cell (i := 3) rfl
        have d4 := hbx2.cell (i := 4) rfl
        have f3 := hbx2.free 3
        have hbo3 : Below wo.heap.size wo (w2.setCell ⟨wo.heap.size, 3, none⟩ (.string ⟨rt.toArray⟩)) := hbo2.setCell (p := ⟨wo.heap.size, 3, none⟩) (Nat.le_refl _) _
        have hsz3 : (w2.setCell ⟨wo.heap.size, 3, none⟩ (.string ⟨rt.toArray⟩)).heap.size = w2.heap.size := by simp [World.setCell]
        have hsz4 : w.heap.size ≤ (w2.setCell ⟨wo.heap.size, 3, none⟩ (.string ⟨rt.toArray⟩)).heap.size := by omega
        have hown3 := own_below3 hownA hbo3
        replace hsz3 := Lib.hid hsz3
        clear hR hbx1 s1 c0 c1 c2 c3 c4
        go_wp2_with (at_builtin; refine wpList_appK _ [.int .i64 kd, .string ⟨#[]⟩, .slice none 0 0, .string ⟨rt.toArray⟩, .slice none 0 0] 5 rfl _ _ 37 40 rfl w.heap.size Try.underlying37 infoN rfl (by omega) u3 A.length zs rfl hown3 w2.heap.size hsz3.out (by rfl) rfl (five_one _ _ _ _ _ _ _ _ _) (by omega) (by omega) hsz4 ?_; intro g cp w5 hown5 hgrow5 hat5)
        have hb5 : Below w.heap.size w w5 := below_own (hb.trans (hbo3.mono hz)) hown3 hgrow5 hsz4 (Nat.le_refl _)
        have hfr5 : Fresh w5 w.heap.size (.slice (some ⟨g, 0, none⟩) (A.length + 1) cp) (A ++ [.mk kd ⟨#[]⟩ [] ⟨rt.toArray⟩ []]) := by
          refine Fresh.snoc (W := w2.setCell ⟨wo.heap.size, 3, none⟩ (.string ⟨rt.toArray⟩)) (mid := wo.heap.size) (F := F) (zs2 := []) (F2 := []) rfl hown5 hgrow5 hat5 (OwnC.keep _ _ _ (fun b h => hbo3.block b (hspA.out.2 b (by simp [h])).2) hocA.out) hspA.out (World.ownsRow_nil _ _ _ _) (World.ownsRow_nil _ _ _ _) (OwnC.nil _) (Span.nil _ _) hz (by have := hsz3.out; omega)
        clear hown5 hgrow5 hat5
        go_roundw
        case rel => exact ⟨i + 1, by omega, by go_num, by rw [hgt.out]; exact hfr5, hb5⟩
        case measure => exact meas_nat hlt
    · obtain rfl : i = l.length := by omega
      rw [List.take_length] at hf
      have hlg := good_len l
      have htx := good_txt l hsm.out
      have hM := Lib.hid (ref03MergeF w.heap.size u3 _ wr hz hf (by omega) (by omega))
      obtain ⟨a3, c3, hu3⟩ : ∃ a c, u3 = .slice a (M3.goodN l).length c := by obtain ⟨_, _, h, _⟩ := hf; exact own_slice h
      subst hu3
      clear hf hlg htx
      go_wp2_with fail
      refine hM.out.mono ?_
      rintro e w1 ⟨v1, rfl, hfr1, hb1⟩
      have hbb : Below w.heap.size w w1 := hb.trans (hb1.mono hz)
      clear hM
      replace hfr1 := Lib.hid hfr1
      go_wp2_with fail
      go_ret
      exact ⟨v1, rfl, hfr1.out, hbb⟩
end Go.Proofs.Ytlknmnldblodbaa

/- The reference of layer 3: nodes that may be, made of any: Good. -/
namespace Go.Proofs.Ytlknmnldblodbaa
open Go.RowKit

theorem fitN_all {l : List Nd} : FitN l ↔ ∀ x ∈ l, Fit1 x ∧ FitN x.kids := by
  induction l with
  | nil => simp [fitN_nil]
  | cons x r ih => rw [fitN_cons, ih]; simp; exact ⟨fun h => ⟨⟨h.1, h.2.1⟩, h.2.2⟩, fun h => ⟨h.1.1, h.1.2, h.2⟩⟩
theorem fit_merged {l : List Nd} (h : FitN l) (ht : txtN l ≤ 268435456) : FitN (M3.merge l) := by
  have h1 := M3.merge_all (P := fun x => (x.name.size ≤ 268435456 ∧ (∀ a ∈ x.attrs, a.name.size ≤ 268435456 ∧ a.value.size ≤ 268435456) ∧ 1 + x.attrs.length + M3.weight x.kids ≤ 1000000) ∧ FitN x.kids)
    (fun x y hx _ _ _ => by rw [M3.withText_name, M3.withText_attrs, M3.withText_kids]; exact hx) l (fun x hx => by have := fitN_all.1 h x hx; exact ⟨⟨this.1.1, this.1.2.2.1, this.1.2.2.2⟩, this.2⟩)
  have h2 := txtN_merge l
  refine fitN_all.2 (fun x hx => ?_)
  obtain ⟨⟨q1, q2, q3⟩, q4⟩ := h1 x hx
  have := txtN_mem hx
  exact ⟨⟨q1, by omega, q2, q3⟩, q4⟩
theorem fit_goodN (l : List Nd) : Sm30 l → M3.weight l ≤ 1000 → FitN (M3.goodN l) := by
  induction l using Nd.ind with
  | h0 => intro _ _; rw [M3.goodN_nil]; exact fitN_nil
  | h1 k n ats t ks r ih1 ih2 =>
    intro hs hw
    obtain ⟨s1, s2, s3⟩ := sm_cons.1 hs
    rw [M3.weight_cons] at hw
    have hw : 1 + ats.length + M3.weight ks + M3.weight r ≤ 1000 := hw
    rw [M3.goodN_cons, M3.good1_mk]
    refine fitN_cons.2 ?_
    by_cases h : M3.kindN k = 1
    · rw [if_pos h]
      have h1 := M3.goodA_len ats
      have h2 := weight_merge (M3.goodN ks)
      have h3 := good_weight ks
      have h4 := good_txt ks s2
      have h5 := M3.length_le_weight ks
      have h6 := M3.wordN_size n 30 s1.1 (by omega)
      refine ⟨⟨by show (M3.wordN n).size ≤ _; omega, by show (⟨#[]⟩ : ByteArray).size ≤ _; decide, ?_, by show 1 + (M3.goodA ats).length + M3.weight (M3.merge (M3.goodN ks)) ≤ _; omega⟩, fit_merged (ih1 s2 (by omega)) (by omega), ih2 s3 (by omega)⟩
      refine M3.goodA_all ats (fun a ha => ?_)
      have h7 := s1.2.2 a ha
      have h8 := M3.attrN_size a.name 30 h7.1 (by omega)
      have h9 := M3.rightN_size a.value
      exact ⟨by show (M3.attrN a.name).size ≤ _; omega, by show (M3.rightN a.value).size ≤ _; omega⟩
    · rw [if_neg h]
      have h6 := M3.rightN_size t
      have h7 : t.size ≤ 30 := s1.2.1
      refine ⟨⟨by show (⟨#[]⟩ : ByteArray).size ≤ _; decide, by show (M3.rightN t).size ≤ _; omega, fun a ha => (nomatch (show a ∈ ([] : List Att) from ha)), by show 1 + 0 + M3.weight [] ≤ _; rw [M3.weight_nil]; omega⟩, fitN_nil, ih2 s3 (by omega)⟩
theorem fit_szN (l : List Nd) (h : FitN l) : SzN l := by
  induction l using Nd.ind with
  | h0 => rw [SzN]; trivial
  | h1 k n ats t ks r ih1 ih2 =>
    obtain ⟨h1, h2, h3⟩ := fitN_cons.1 h
    refine szN_cons.2 ⟨⟨by have := h1.1; omega, by have := h1.2.1; omega, fun a ha => by have := h1.2.2.1 a ha; omega⟩, ih1 h2, ih2 h3⟩
/-- Nodes that may be, of any: what 'Good' tells. -/
def gdN (l : List Nd) : List Nd := M3.good (fewN l)
theorem gd_weight (l : List Nd) : M3.weight (gdN l) ≤ 240 :=
  Nat.le_trans (weight_merge _) (Nat.le_trans (good_weight _) (fewN_weight l))
theorem gd_fit (l : List Nd) : FitN (gdN l) := by
  have h1 := fewN_weight l
  have h2 := good_txt (fewN l) (few_sm l)
  have h3 := M3.length_le_weight (fewN l)
  exact fit_merged (fit_goodN _ (few_sm l) (by omega)) (by omega)
theorem gd_may (l : List Nd) : M3.mayE false (gdN l) = 0 := M3.good_may _

set_option maxHeartbeats 2000000 in
theorem ref03Good (S : Nat → Prop) (v : Value) (l : List Nd) (w : World) (hS : ∀ b, S b → b < w.heap.size) (hr : RepN S w v l) (hsz : SzN l) :
    Calls Try.prog 22 #[v] w (FreshPost (gdN l) w) := by
  have hF := Lib.hid (ref03Few S v l w hS hr hsz)
  obtain ⟨a, cap, rfl⟩ := hr.slice
  go_enter Try.func22, Try.ntmps22
  go_wp2_with fail
  refine hF.out.mono ?_
  rintro e w1 ⟨v1, rfl, hm1, hb1⟩
  have hG := Lib.hid (ref03good (M3.weight (fewN l) + 1) _ v1 (fewN l) w1 (by omega) (by have := fewN_weight l; omega) (few_sm l) (fun b h => h.2) hm1.rep)
  obtain ⟨a1, c1, rfl⟩ := hm1.rep.slice
  clear hm1 hF
  go_wp2_with fail
  refine hG.out.mono ?_
  rintro e w2 ⟨v2, rfl, hf2, hb2⟩
  have hb := bt hb1 hb2
  have hf3 := Lib.hid (hf2.base hb1.size)
  obtain ⟨a2, c2, rfl⟩ := hf2.rep.slice
  clear hf2
  go_wp2_with fail
  go_ret
  exact ⟨_, rfl, hf3.out, hb⟩
end Go.Proofs.Ytlknmnldblodbaa

/- Tokens by definitions: written elements without kids are told as their tags. -/
namespace Go.Proofs.Ytlknmnldblodbaa.M5

theorem tw_all (q : UInt8 → Bool) (a : List UInt8) (x : UInt8) (b : List UInt8) (h : ∀ c ∈ a, q c = true) (hx : q x = false) : (a ++ x :: b).takeWhile q = a ∧ (a ++ x :: b).dropWhile q = x :: b := by
  induction a with
  | nil => rw [List.nil_append, List.takeWhile_cons, List.dropWhile_cons, hx]; exact ⟨rfl, rfl⟩
  | cons c r ih =>
    obtain ⟨i1, i2⟩ := ih (fun y hy => h y (by simp [hy]))
    rw [List.cons_append, List.takeWhile_cons, List.dropWhile_cons, h c (by simp), if_pos rfl, if_pos rfl, i1, i2]
    exact ⟨rfl, rfl⟩
theorem small_own {c : UInt8} (h : M3.capB c = false) : M1.small c = c := by
  unfold M3.capB at h
  unfold M1.small
  rw [if_neg]
  simpa using h
theorem fold_own (l : List UInt8) (h : ∀ c ∈ l, M3.capB c = false) : M1.fold l = l := by
  unfold M1.fold
  induction l with
  | nil => rfl
  | cons c r ih => rw [List.map_cons, small_own (h c (by simp)), ih (fun y hy => h y (by simp [hy]))]
theorem att_facts {l : List UInt8} (h : M3.attributedB l = true) : (∃ c r, l = c :: r) ∧ (∀ c ∈ l, M3.capB c = false) ∧ ∀ c ∈ l, keyB c = true ∧ c ≠ 62 := by
  unfold M3.attributedB at h
  rw [Bool.and_eq_true, Bool.and_eq_true, Bool.and_eq_true] at h
  obtain ⟨h1, ⟨_, h2⟩, h3⟩ := h
  refine ⟨?_, fun c hc => ?_, fun c hc => ?_⟩
  · cases l with
    | nil => cases h1
    | cons c r => exact ⟨c, r, rfl⟩
  · have := List.any_eq_false.1 (by simpa using h2) c hc
    simpa using this
  · have := List.any_eq_false.1 (show l.any M3.badB = false by simpa using h3) c hc
    have hb : M3.badB c = false := by simpa using this
    unfold M3.badB at hb
    simp only [Bool.or_eq_false_iff] at hb
    obtain ⟨⟨⟨⟨⟨⟨b9, b10⟩, b12⟩, b32⟩, b47⟩, b62⟩, b61⟩ := hb
    have key : ∀ d : UInt8, (c.toNat == d.toNat) = false → (c == d) = false := fun d hd => by
      rw [beq_eq_false_iff_ne] at hd ⊢
      intro e
      exact hd (by rw [e])
    have k62 := key 62 b62
    refine ⟨?_, beq_eq_false_iff_ne.1 k62⟩
    unfold keyB stopB blankB
    rw [key 9 b9, key 10 b10, key 12 b12, key 32 b32, key 47 b47, k62, key 61 b61]
    rfl
theorem name_facts {l : List UInt8} (h : M3.namedB l = true) : (∃ c r, l = c :: r ∧ letterB c = true) ∧ (∀ c ∈ l, M3.capB c = false) ∧ ∀ c ∈ l, nameB c = true := by
  cases l with
  | nil => cases h
  | cons c r =>
    have h' : (M3.smallB c && r.all M3.nameB) = true := h
    rw [Bool.and_eq_true] at h'
    obtain ⟨h1, h2⟩ := h'
    have hs : ∀ d : UInt8, M3.smallB d = true → letterB d = true ∧ M3.capB d = false ∧ nameB d = true := fun d hd => by
      unfold M3.smallB at hd
      have hd := of_decide_eq_true hd
      have hl : letterB d = true := by unfold letterB; simp; omega
      refine ⟨hl, ?_, ?_⟩
      · unfold M3.capB; simp; omega
      · unfold nameB; rw [hl]; rfl
    have hn : ∀ d : UInt8, M3.nameB d = true → M3.capB d = false ∧ nameB d = true := fun d hd => by
      unfold M3.nameB at hd
      rw [Bool.or_eq_true] at hd
      rcases hd with hd | hd
      · exact ⟨(hs d hd).2.1, (hs d hd).2.2⟩
      · have hd := of_decide_eq_true hd
        refine ⟨by unfold M3.capB; simp; omega, ?_⟩
        unfold nameB
        rcases hd with h45 | h48
        · have : d = 45 := UInt8.toNat_inj.1 h45
          subst this
          decide
        · rw [show decide (48 ≤ d.toNat ∧ d.toNat ≤ 57) = true from decide_eq_true h48]
          simp
    refine ⟨⟨c, r, rfl, (hs c h1).1⟩, fun d hd => ?_, fun d hd => ?_⟩
    · rcases List.mem_cons.1 hd with rfl | hd
      · exact (hs _ h1).2.1
      · exact (hn _ (List.all_eq_true.1 h2 _ hd)).1
    · rcases List.mem_cons.1 hd with rfl | hd
      · exact (hs _ h1).2.2
      · exact (hn _ (List.all_eq_true.1 h2 _ hd)).2
theorem key_over {c : UInt8} (h : keyB c = true) : overB c = false := by
  unfold keyB stopB at h
  unfold overB
  revert h
  cases blankB c <;> cases (c == 47) <;> cases (c == 62) <;> cases (c == 61) <;> simp
theorem attB_step (a : Att) (rest : List UInt8) (acc : List Att) (h : M3.attributedB a.name.data.toList = true) : attsR (M4.attB a ++ rest) acc = attsR rest (addT acc a) := by
  obtain ⟨⟨c, r, hc⟩, hcap, hk⟩ := att_facts h
  obtain ⟨X, hX⟩ : ∃ X, X = a.name.data.toList ++ 61 :: (34 :: (M2.escape true a.value.data.toList ++ 34 :: rest)) := ⟨_, rfl⟩
  have e1 : M4.attB a ++ rest = 32 :: X := by rw [hX]; unfold M4.attB; simp
  have hXc : X = c :: (r ++ 61 :: (34 :: (M2.escape true a.value.data.toList ++ 34 :: rest))) := by rw [hX, hc]; rfl
  have hkc := hk c (by rw [hc]; simp)
  have e2 : attsR (32 :: X) acc = attsR X acc := by
    rw [atts_over (32 :: X), atts_over X]
    rfl
  rw [e1, e2, hXc, atts_one c _ acc (key_over hkc.1) hkc.2, ← hXc]
  obtain ⟨t1, t2⟩ := tw_all keyB a.name.data.toList 61 (34 :: (M2.escape true a.value.data.toList ++ 34 :: rest)) (fun d hd => (hk d hd).1) (by decide)
  have hq := quoted_own 34 (M2.escape true a.value.data.toList) rest (fun x hx => (M2.escape_bare _ x hx).2.2)
  have hat : attC X = (a, rest) := by
    rw [attC_61 X (34 :: (M2.escape true a.value.data.toList ++ 34 :: rest)) (by rw [hX, t2]; rfl)]
    have hv : valC ((34 :: (M2.escape true a.value.data.toList ++ 34 :: rest)).dropWhile blankB) = (M2.escape true a.value.data.toList, rest) := by
      show valC (34 :: (M2.escape true a.value.data.toList ++ 34 :: rest)) = _
      rw [valC, if_pos (Or.inl rfl), hq]
    rw [hv, hX, t1, fold_own _ hcap, M2.decode_escape, bs_of, bs_of]
  rw [hat]
theorem addT_new (acc : List Att) (a : Att) (h : ∀ b ∈ acc, b.name ≠ a.name) : addT acc a = acc ++ [a] := by
  unfold addT
  rw [if_neg]
  intro hany
  obtain ⟨b, hb, he⟩ := List.any_eq_true.1 hany
  exact h b hb (M3.eqB_iff.1 he)
theorem atts_written (rest : List UInt8) : ∀ (l acc : List Att), (∀ a ∈ l, M3.attributedB a.name.data.toList = true) → l.Pairwise (fun a b => a.name ≠ b.name) → (∀ b ∈ acc, ∀ a ∈ l, b.name ≠ a.name) → attsR (M4.attsB l ++ 62 :: rest) acc = some (acc ++ l, rest) := by
  intro l
  induction l with
  | nil =>
    intro acc _ _ _
    show attsR (62 :: rest) acc = _
    rw [attsR_cons, if_pos rfl, List.append_nil]
  | cons a l ih =>
    intro acc h1 h2 h3
    obtain ⟨p1, p2⟩ := List.pairwise_cons.1 h2
    have e : M4.attsB (a :: l) ++ 62 :: rest = M4.attB a ++ (M4.attsB l ++ 62 :: rest) := by unfold M4.attsB; rw [List.flatMap_cons, List.append_assoc]
    rw [e, attB_step a _ acc (h1 a (by simp)), addT_new acc a (fun b hb => h3 b hb a (by simp)), ih (acc ++ [a]) (fun b hb => h1 b (by simp [hb])) p2 (fun b hb c hc => by
      rcases List.mem_append.1 hb with hb | hb
      · exact h3 b hb c (by simp [hc])
      · rw [List.mem_singleton] at hb
        subst hb
        exact p1 c hc), List.append_assoc]
    rfl
def AttsOk (l : List Att) : Prop := (∀ a ∈ l, M3.attributedB a.name.data.toList = true) ∧ l.Pairwise (fun a b => a.name ≠ b.name)
theorem head_written (n : ByteArray) (l : List Att) (rest : List UInt8) (hn : M3.namedB n.data.toList = true) (hl : AttsOk l) : startsB (M4.headB n l ++ rest) = true ∧ tagR (M4.headB n l ++ rest) = (⟨1, n, l, ⟨#[]⟩⟩, rest) := by
  obtain ⟨⟨c, r, hc, hlc⟩, hcap, hnb⟩ := name_facts hn
  have e : M4.headB n l ++ rest = 60 :: (n.data.toList ++ (M4.attsB l ++ 62 :: rest)) := by unfold M4.headB; simp
  have hx : ∃ x b, M4.attsB l ++ 62 :: rest = x :: b ∧ nameB x = false := by
    cases l with
    | nil => exact ⟨62, rest, rfl, by decide⟩
    | cons a l => exact ⟨32, _, rfl, by decide⟩
  obtain ⟨x, b, hxb, hx⟩ := hx
  obtain ⟨t1, t2⟩ := tw_all nameB n.data.toList x b hnb hx
  rw [← hxb] at t1 t2
  have hs : startsB (60 :: (n.data.toList ++ (M4.attsB l ++ 62 :: rest))) = true := by
    rw [hc]
    show (60 == 60 && (letterB c || c == 33 || c == 63 || c == 47)) = true
    rw [hlc]
    rfl
  rw [e]
  refine ⟨hs, ?_⟩
  have hb : beginR (60 :: (n.data.toList ++ (M4.attsB l ++ 62 :: rest))) = (⟨1, n, l, ⟨#[]⟩⟩, rest) := by
    rw [begin_eq]
    show (match attsR ((n.data.toList ++ (M4.attsB l ++ 62 :: rest)).dropWhile nameB) [] with | some (as_, r) => ((⟨1, bs (M1.fold ((n.data.toList ++ (M4.attsB l ++ 62 :: rest)).takeWhile nameB)), as_, ⟨#[]⟩⟩ : Tok), r) | none => (zero, [])) = _
    rw [t1, t2, atts_written rest l [] hl.1 hl.2 (fun b hb => nomatch hb), fold_own _ hcap, bs_of]
    rfl
  rw [hc] at hb hs ⊢
  unfold tagR
  rw [if_pos hs]
  show (if letterB c then _ else _ : Tok × List UInt8) = _
  rw [if_pos hlc]
  exact hb
theorem end_written (n : ByteArray) (rest : List UInt8) (hn : M3.namedB n.data.toList = true) : startsB ([60, 47] ++ (n.data.toList ++ [62]) ++ rest) = true ∧ tagR ([60, 47] ++ (n.data.toList ++ [62]) ++ rest) = (⟨2, n, [], ⟨#[]⟩⟩, rest) := by
  obtain ⟨⟨c, r, hc, hlc⟩, hcap, hnb⟩ := name_facts hn
  have e : [60, 47] ++ (n.data.toList ++ [62]) ++ rest = 60 :: 47 :: (n.data.toList ++ 62 :: rest) := by simp
  rw [e]
  have hs : startsB (60 :: 47 :: (n.data.toList ++ 62 :: rest)) = true := rfl
  refine ⟨hs, ?_⟩
  obtain ⟨t1, _⟩ := tw_all nameB n.data.toList 62 rest hnb (by decide)
  obtain ⟨u1, _⟩ := tw_all (· != 62) n.data.toList 62 rest (fun d hd => by
    rw [bne_iff_ne]
    intro e
    have := hnb d hd
    rw [e] at this
    exact absurd this (by decide)) rfl
  have hf : findL [62] (n.data.toList ++ 62 :: rest) = n.data.toList.length := by rw [findL_span]; unfold spanN; rw [u1]
  unfold tagR
  rw [if_pos hs]
  show (if letterB 47 then _ else _ : Tok × List UInt8) = _
  rw [show letterB 47 = false from by decide, if_neg Bool.false_ne_true]
  have p4 : [60, 33, 45, 45].isPrefixOf (60 :: 47 :: (n.data.toList ++ 62 :: rest)) = false := rfl
  have p3 : [60, 47, 62].isPrefixOf (60 :: 47 :: (n.data.toList ++ 62 :: rest)) = false := by
    rw [hc]
    show (60 == 60 && (47 == 47 && (62 == c && _))) = false
    have : ((62 : UInt8) == c) = false := by
      rw [beq_eq_false_iff_ne]
      intro e
      subst e
      exact absurd hlc (by decide)
    rw [this]
    rfl
  rw [p4, p3, if_neg Bool.false_ne_true, if_neg Bool.false_ne_true, if_pos ⟨rfl, by rw [hc]; exact congrArg some hlc⟩, hf, if_pos (by rw [List.length_append]; simp), t1, fold_own _ hcap, bs_of]
  congr 1
  rw [List.drop_append, List.drop_of_length_le (by omega), List.nil_append, Nat.add_sub_cancel_left]
  rfl
theorem toks_written (n : ByteArray) (l : List Att) (rest : List UInt8) (hn : M3.namedB n.data.toList = true) (hr : M3.rawB n.data.toList = false) (hl : AttsOk l) :
    toksR [] (M4.headB n l ++ ([60, 47] ++ (n.data.toList ++ [62])) ++ rest) = ⟨1, n, l, ⟨#[]⟩⟩ :: ⟨2, n, [], ⟨#[]⟩⟩ :: toksR [] rest := by
  rw [List.append_assoc]
  obtain ⟨s1, g1⟩ := head_written n l (([60, 47] ++ (n.data.toList ++ [62])) ++ rest) hn hl
  obtain ⟨s2, g2⟩ := end_written n rest hn
  rw [toks_tag _ s1, g1]
  show (if (1 : Int) ≠ 0 then [(⟨1, n, l, ⟨#[]⟩⟩ : Tok)] else []) ++ ((rawT ⟨1, n, l, ⟨#[]⟩⟩ _).1 ++ toksR [] (rawT ⟨1, n, l, ⟨#[]⟩⟩ _).2) = _
  rw [rawT_not _ _ (fun h => by rw [hr] at h; cases h.2), if_pos (by decide)]
  show (⟨1, n, l, ⟨#[]⟩⟩ : Tok) :: toksR [] (([60, 47] ++ (n.data.toList ++ [62])) ++ rest) = _
  rw [toks_tag _ s2, g2]
  show _ :: ((if (2 : Int) ≠ 0 then [(⟨2, n, [], ⟨#[]⟩⟩ : Tok)] else []) ++ ((rawT ⟨2, n, [], ⟨#[]⟩⟩ _).1 ++ toksR [] (rawT ⟨2, n, [], ⟨#[]⟩⟩ _).2)) = _
  rw [rawT_not _ _ (fun h => absurd h.1 (by show ¬ ((2 : Int) = 1); decide)), if_pos (by decide)]
  rfl
end Go.Proofs.Ytlknmnldblodbaa.M5

/- Tokens by definitions: written elements without kids, a list of them, told. -/
namespace Go.Proofs.Ytlknmnldblodbaa.M5

theorem names_atts (l : List Att) : ∀ seen : List ByteArray, M3.namesE seen l = 0 → (∀ a ∈ l, M3.attributedB a.name.data.toList = true) ∧ l.Pairwise (fun a b => a.name ≠ b.name) ∧ ∀ a ∈ l, ∀ s ∈ seen, s ≠ a.name := by
  induction l with
  | nil => intro seen _; exact ⟨fun a h => (nomatch h), List.Pairwise.nil, fun a h => (nomatch h)⟩
  | cons a r ih =>
    intro seen h
    have h : (if M3.attributedB a.name.data.toList then (if seen.any (M3.eqB a.name) then 5 else M3.namesE (seen ++ [a.name]) r) else 4) = (0 : Int) := h
    split at h
    · rename_i ha
      split at h
      · exact absurd h (by decide)
      · rename_i hs
        obtain ⟨i1, i2, i3⟩ := ih _ h
        have hns : ∀ s ∈ seen, s ≠ a.name := fun s hm e => hs (List.any_eq_true.2 ⟨s, hm, M3.eqB_iff.2 e.symm⟩)
        refine ⟨fun b hb => ?_, List.pairwise_cons.2 ⟨fun b hb => i3 b hb a.name (by simp), i2⟩, fun b hb s hm => ?_⟩
        · rcases List.mem_cons.1 hb with rfl | hb
          · exact ha
          · exact i1 b hb
        · rcases List.mem_cons.1 hb with rfl | hb
          · exact hns s hm
          · exact i3 b hb s (by simp [hm])
    · exact absurd h (by decide)
/-- What a written element must be to be told. -/
def SaidOk (x : Nd) : Prop := x.kind = 1 → M3.namedB x.name.data.toList = true ∧ AttsOk x.attrs
theorem one_said {x : Nd} {p : Bool} (h : M3.oneE x p = 0) : SaidOk x := fun hk => by
  unfold M3.oneE at h
  rw [if_pos hk] at h
  unfold M3.elemE at h
  split at h
  · split at h
    · rename_i hn
      split at h
      · rename_i hz
        obtain ⟨h1, h2, _⟩ := names_atts _ _ hz
        exact ⟨hn, h1, h2⟩
      · rename_i hz
        exact absurd h hz
    · exact absurd h (by decide)
  · exact absurd h (by decide)
theorem may_said (l : List Nd) : ∀ p, M3.mayE p l = 0 → ∀ x ∈ l, SaidOk x := by
  induction l with
  | nil => intro p _ x h; exact (nomatch h)
  | cons y r ih =>
    intro p h x hx
    rw [M3.mayE_cons] at h
    by_cases h1 : M3.oneE y p = 0
    · rw [if_neg (by simpa using h1)] at h
      by_cases h2 : M3.mayE false y.kids = 0
      · rw [if_neg (by simpa using h2)] at h
        rcases List.mem_cons.1 hx with rfl | hx
        · exact one_said h1
        · exact ih _ h x hx
      · rw [if_pos (by simpa using h2)] at h
        exact absurd h h2
    · rw [if_pos (by simpa using h1)] at h
      exact absurd h h1
/-- An element without its kids. -/
def bareT (x : Nd) : Nd := .mk x.kind x.name x.attrs x.text []
def tellB (x : Nd) : Bool := decide (x.kind = 1) && (!M3.rawB x.name.data.toList && !M3.voidB x.name.data.toList)
def tagsN : List Nd → List Nd
  | [] => []
  | x :: r => if tellB x then bareT x :: tagsN r else tagsN r
def wantT : List Nd → List Tok
  | [] => []
  | x :: r => if tellB x then ⟨1, x.name, x.attrs, ⟨#[]⟩⟩ :: ⟨2, x.name, [], ⟨#[]⟩⟩ :: wantT r else wantT r
theorem tagsN_snoc (l : List Nd) (x : Nd) : tagsN (l ++ [x]) = tagsN l ++ if tellB x then [bareT x] else [] := by
  induction l with
  | nil => simp only [List.nil_append, tagsN]
  | cons y r ih =>
    rw [List.cons_append, tagsN, tagsN, ih]
    split <;> simp
theorem wantT_snoc (l : List Nd) (x : Nd) : wantT (l ++ [x]) = wantT l ++ if tellB x then [⟨1, x.name, x.attrs, ⟨#[]⟩⟩, ⟨2, x.name, [], ⟨#[]⟩⟩] else [] := by
  induction l with
  | nil => simp only [List.nil_append, wantT]
  | cons y r ih =>
    rw [List.cons_append, wantT, wantT, ih]
    split <;> simp
theorem tagsN_take (l : List Nd) (i : Nat) (h : i < l.length) : tagsN (l.take (i + 1)) = tagsN (l.take i) ++ if tellB l[i] then [bareT l[i]] else [] := by
  rw [List.take_succ_eq_append_getElem h, tagsN_snoc]
theorem wantT_take (l : List Nd) (i : Nat) (h : i < l.length) : wantT (l.take (i + 1)) = wantT (l.take i) ++ if tellB l[i] then [⟨1, l[i].name, l[i].attrs, ⟨#[]⟩⟩, ⟨2, l[i].name, [], ⟨#[]⟩⟩] else [] := by
  rw [List.take_succ_eq_append_getElem h, wantT_snoc]
theorem wantT_len (l : List Nd) : (wantT l).length ≤ 2 * l.length := by
  induction l with
  | nil => exact Nat.le_refl _
  | cons x r ih => rw [wantT]; split <;> simp <;> omega
theorem tell_iff {x : Nd} (h : tellB x = true) : x.kind = 1 ∧ M3.rawB x.name.data.toList = false ∧ M3.voidB x.name.data.toList = false := by
  unfold tellB at h
  rw [Bool.and_eq_true, Bool.and_eq_true, decide_eq_true_iff] at h
  exact ⟨h.1, by simpa using h.2.1, by simpa using h.2.2⟩
theorem bare_text {x : Nd} (h : tellB x = true) (b : Bool) : M4.oneB b (bareT x) = M4.headB x.name x.attrs ++ ([60, 47] ++ (x.name.data.toList ++ [62])) := by
  obtain ⟨h1, h2, h3⟩ := tell_iff h
  have hb : (bareT x).kind = 1 := h1
  rw [M4.oneB_1 hb]
  show M4.headB x.name x.attrs ++ (M4.innerB (M3.voidB x.name.data.toList) _ [] ++ M4.endB x.name) = _
  rw [h3, M4.innerB_no, M4.textB_nil]
  unfold M4.endB
  rw [h3]
  rfl
theorem tags_told (l : List Nd) (h : ∀ x ∈ l, SaidOk x) : toksR [] (M4.textB false (tagsN l)) = wantT l := by
  induction l with
  | nil => show toksR [] (M4.textB false []) = []; rw [M4.textB_nil, toksR_nil]; rfl
  | cons x r ih =>
    have ih := ih (fun y hy => h y (by simp [hy]))
    rw [tagsN, wantT]
    split
    · rename_i ht
      obtain ⟨h1, h2, h3⟩ := tell_iff ht
      obtain ⟨n1, n2⟩ := h x (by simp) h1
      rw [M4.textB_cons, bare_text ht, toks_written x.name x.attrs _ n1 h2 n2, ih]
    · exact ih
/-- How long at most. -/
def SmallN (x : Nd) : Prop := x.name.size ≤ 30 ∧ ∀ a ∈ x.attrs, a.name.size ≤ 30 ∧ a.value.size ≤ 120
theorem atts_small (l : List Att) (h : ∀ a ∈ l, a.name.size ≤ 30 ∧ a.value.size ≤ 120) : (M4.attsB l).length ≤ l.length * 800 := by
  induction l with
  | nil => simp [M4.attsB]
  | cons a r ih =>
    have h1 := ih (fun b hb => h b (by simp [hb]))
    obtain ⟨h2, h3⟩ := h a (by simp)
    have h4 := M2.escape_len true a.value.data.toList
    have e : (M4.attsB (a :: r)).length = (M4.attB a).length + (M4.attsB r).length := by simp [M4.attsB]
    have e2 : (M4.attB a).length = a.name.size + (M2.escape true a.value.data.toList).length + 4 := by
      simp only [M4.attB, List.length_cons, List.length_append, List.length_nil]
      show a.name.size + _ + 1 = _
      omega
    have h5 : a.value.data.toList.length = a.value.size := rfl
    rw [e, List.length_cons]
    omega
theorem one_small {x : Nd} (h : SmallN x) (ht : tellB x = true) (b : Bool) : (M4.oneB b (bareT x)).length ≤ (1 + x.attrs.length) * 800 := by
  rw [bare_text ht, List.length_append, M4.headB_len]
  have h1 := atts_small _ h.2
  have h2 := h.1
  have h3 : x.name.data.toList.length = x.name.size := rfl
  simp only [List.length_append, List.length_cons, List.length_nil, h3]
  omega
theorem tags_small (l : List Nd) (h : ∀ x ∈ l, SmallN x) : (M4.textB false (tagsN l)).length ≤ M3.weight l * 800 := by
  induction l with
  | nil => show (M4.textB false []).length ≤ _; rw [M4.textB_nil]; exact Nat.zero_le _
  | cons x r ih =>
    have ih := ih (fun y hy => h y (by simp [hy]))
    have hw : M3.weight (x :: r) * 800 = (1 + x.attrs.length) * 800 + M3.weight x.kids * 800 + M3.weight r * 800 := by rw [M3.weight_cons, Nat.add_mul, Nat.add_mul]
    rw [tagsN, hw]
    by_cases ht : tellB x = true
    · have := one_small (h x (by simp)) ht false
      rw [if_pos ht, M4.textB_cons, List.length_append]
      exact Nat.le_trans (Nat.add_le_add this ih) (Nat.add_le_add_right (Nat.le_add_right _ _) _)
    · rw [if_neg ht]
      exact Nat.le_trans ih (Nat.le_add_left _ _)
end Go.Proofs.Ytlknmnldblodbaa.M5

/- Statement TokenWrites. -/
namespace Go.Proofs.Ytlknmnldblodbaa
open Go.RowKit

theorem wr_meas5 {n k : Nat} (h : k < n) : n - (intOf (.int .i64 ((k : Int) + 1))).toNat < n - (intOf (.int .i64 (k : Int))).toNat := by
  show n - ((k : Int) + 1).toNat < n - (k : Int).toNat
  omega
theorem ref03Void5 (s : ByteArray) (w : World) : Calls Try.prog 24 #[.string s] w fun e w' => e = .returned (.bool (M3.voidB s.data.toList)) ∧ w = w' := (ref03Void s w).mono fun _ _ h => ⟨h.1, h.2.symm⟩
theorem ref03Raw5 (s : ByteArray) (w : World) : Calls Try.prog 23 #[.string s] w fun e w' => e = .returned (.bool (M3.rawB s.data.toList)) ∧ w = w' := (ref03Raw s w).mono fun _ _ h => ⟨h.1, h.2.symm⟩
theorem gd_small (l : List Nd) : ∀ x ∈ gdN l, M5.SmallN x := by
  refine M3.merge_all (P := M5.SmallN) (fun x y hx _ _ _ => ?_) _ (fun x hx => ?_)
  · unfold M5.SmallN
    rw [M3.withText_name, M3.withText_attrs]
    exact hx
  · rw [M3.goodN_map] at hx
    obtain ⟨y, hy, rfl⟩ := List.mem_map.1 hx
    have s1 := (sm_iff.1 (few_sm l) y hy).1
    unfold M3.good1
    split
    · refine ⟨M3.wordN_size _ 30 s1.1 (by omega), ?_⟩
      refine M3.goodA_all _ (fun a ha => ?_)
      have h7 := s1.2.2 a ha
      have h8 := M3.attrN_size a.name 30 h7.1 (by omega)
      have h9 := M3.rightN_size a.value
      exact ⟨h8, by show (M3.rightN a.value).size ≤ _; omega⟩
    · exact ⟨by show (⟨#[]⟩ : ByteArray).size ≤ _; decide, fun a ha => (nomatch (show a ∈ ([] : List Att) from ha))⟩
theorem wpList_appTwo5 {P : Program} {ops : Array Oper} {rest : List Oper} {o : Oper} {a : Act} {Q : Exit → Act → World → Prop} (w1 : World) (cs : List Value) (hgd : o.guard = none) (s y : Operand) (t e : TypeId)
    (ho : o.op = .call { callee := .builtin .append, args := #[s, y], argTypes := #[t, t] }) (base k : Nat) {z : Value} {bytes : Nat} (ht : P.underlying t = some (.slice e))
    (hinfo : (P.info? e).map (fun i => (i.zero, i.size, i.bytes)) = some (some z, k, bytes)) (hz : z.cells.size = k) (hk : 0 < k)
    (v : Value) (n : Nat) (xs : List Value) (hs : a.eval s = v) (hown : w1.ownsRow base e k v n xs) (H : Nat) (hH : w1.heap.size = H) (hx : a.eval y = .slice (some ⟨H, 0, none⟩) 2 2) (hcs : cs.length = 2 * k) (h1 : ∀ u ∈ cs, u.oneCell' = true)
    (h63 : n + 2 ≤ 9223372036854775807) (hbytes : (n + 2) * bytes ≤ 140737488355328) (hbase : base ≤ w1.heap.size)
    (h : ∀ g cap w2, w2.ownsRow base e k (.slice (some ⟨g, 0, none⟩) (n + 2) cap) (n + 2) (xs ++ cs) → w1.grownBy w2 v.ownBlock → (v.ownBlock = some g ∨ w1.heap.size ≤ g) → wpList P ops Q rest (a.put o.dst (.slice (some ⟨g, 0, none⟩) (n + 2) cap)) w2) : wpList P ops Q (o :: rest) a (w1.alloc (.cells cs.toArray e)) := by
  subst hH
  obtain ⟨i, hi, hz0, hz1, hz2⟩ := info_parts hinfo
  refine wpList_append_lies _ hgd s y t ho base e i z k bytes ht hi hz0 hz1 hz2 hz hk v n xs hs (hown.alloc _) ⟨w1.heap.size, 0, none⟩ 2 2 cs hx (by omega) ?_ h1 (by omega) (by unfold maxLen; omega) hbytes (by simp; omega) _ rfl ?_
  · intro j u hj
    rw [add_plain', Nat.zero_add, World.cell?_alloc_at _ _ _ _ rfl]
    simpa using hj
  · intro g cap w2 h2 h3 h4 _
    exact h g cap w2 h2 (grownBy_of_alloc h3) (by
      rcases h4 with h4 | h4
      · exact .inl h4
      · right; rw [h4]; simp)
theorem Row.freshW5 {w : World} {S : Nat → Prop} {g k : Nat} {t : TypeId} {cs : List Value} (h : Box w g t cs) (hS : S g) (hl : cs.length = k) : Row S w k (.slice (some ⟨g, 0, none⟩) 1 1) 1 cs :=
  ⟨by omega, some ⟨g, 0, none⟩, 1, rfl, Nat.le_refl _, by omega, (fun e => nomatch e), fun _ => ⟨g, 0, rfl, hS, fun j u hu => by rw [Nat.zero_add]; exact h.cell hu⟩⟩

set_option maxHeartbeats 8000000 in
set_option maxRecDepth 100000 in
theorem law05TokenWrites (l : List Nd) (S : Nat → Prop) (v : Value) (w : World) (hg : Glo w) (hS : ∀ b, S b → b < w.heap.size) (hr : RepN S w v l) (hsz : SzN l) :
    Calls Try.prog 6 #[v] w fun e w' => e = .returned (.bool true) ∧ Below w.heap.size w w' := by
  have hG := Lib.hid (ref03Good S v l w hS hr hsz)
  have hgf := gd_fit l
  have hgw := gd_weight l
  have hsm := gd_small l
  have hmy := M5.may_said _ _ (gd_may l)
  obtain ⟨a, cap, rfl⟩ := hr.slice
  generalize gdN l = L at *
  have hLl := M3.length_le_weight L
  have htold := Lib.hid (M5.tags_told L hmy)
  have htl : ∀ i, (M4.textB false (M5.tagsN (L.take i))).length ≤ 192000 := fun i => by
    have h1 := M5.tags_small (L.take i) (fun x hx => hsm x (List.mem_of_mem_take hx))
    have h3 : M3.weight L = M3.weight (L.take i) + M3.weight (L.drop i) := by rw [← M3.weight_append, List.take_append_drop]
    omega
  replace htl := Lib.hid htl
  replace hgf := Lib.hid hgf
  replace hsm := Lib.hid hsm
  clear hmy
  go_enter Try.func6, Try.ntmps6
  go_wp2_with fail
  refine hG.out.mono ?_
  rintro e w1 ⟨v1, rfl, hf1, hb1⟩
  have hr1 := hf1.rep
  obtain ⟨a1, c1, rfl⟩ := hr1.slice
  obtain ⟨_, hlc, hcm⟩ := hr1.len
  replace hr1 := Lib.hid hr1
  clear hf1 hG
  go_wp2_with fail
  go_loopw [4, 5, 6, 7, 8, 9] (fun u4 u5 u6 _ _ _ wr => ∃ (i : Nat) (o : ByteArray) (zs : List Value), i ≤ L.length ∧ u6 = .int .i64 (i : Int) ∧ u4 = .string o ∧ Hid (o.data.toList = M4.textB false (M5.tagsN (L.take i))) ∧
      wr.ownsRow w1.heap.size 31 4 u5 (M5.wantT (L.take i)).length zs ∧ RepT (fun b => w.heap.size ≤ b ∧ b < w1.heap.size) wr zs (M5.wantT (L.take i)) ∧ Below w1.heap.size w1 wr) (fun _ _ u6 _ _ _ _ => L.length - (intOf u6).toNat)
  case atStart => exact ⟨0, ⟨#[]⟩, [], by omega, rfl, rfl, (by show _ = _; rw [List.take_zero, M5.tagsN, M4.textB_nil]), World.ownsRow_nil _ _ _ _, (by rw [List.take_zero]; exact rfl), Below.refl _ _⟩
  case round =>
    obtain ⟨i, o, zs, hi, rfl, rfl, ho, hown, hrep, hb⟩ := hrel
    have hz := hb.size
    have hz1 := hb1.size
    by_cases hlt : i < L.length
    · have hS1 : ∀ b, w.heap.size ≤ b ∧ b < w1.heap.size → b < w1.heap.size := fun b h => h.2
      obtain ⟨b, off, va, vk, rfl, hSb, p0, p1, p2, p3, p4, hrv⟩ := hr1.out.look hS1 hb i hlt
      have hfx := fitN_mem hgf.out (List.getElem_mem hlt)
      have hsx := Lib.hid (hsm.out _ (List.getElem_mem hlt))
      have hbl := hSb.2
      have hwl := weight_le (List.getElem_mem hlt)
      have htg := M5.tagsN_take L i hlt
      have hwt := M5.wantT_take L i hlt
      generalize L[i] = x at *
      obtain ⟨a3, e3, rfl⟩ := hrv.at_.slice
      obtain ⟨a4, e4, rfl⟩ := hrv.kids.slice
      have hI0 : (i : Int) < (L.length : Int) := by omega
      have hI1 : (0 : Int) ≤ (i : Int) := by omega
      have hRw := Lib.hid (fun w => ref03Raw5 x.name w)
      have hVd := Lib.hid (fun w => ref03Void5 x.name w)
      by_cases ht : M5.tellB x = true
      · rw [if_pos ht] at htg hwt
        obtain ⟨k1, kr, kv⟩ := M5.tell_iff ht
        have k1b : (x.kind != 1) = false := by simpa using k1
        rw [kr] at hRw
        rw [kv] at hVd
        have hwl2 := M5.wantT_len (L.take i)
        have hel2 := List.length_take_le i L
        have hol := M5.one_small hsx.out ht false
        have htx : M4.textB false [M5.bareT x] = M4.oneB false (M5.bareT x) := by rw [M4.textB_cons, M4.textB_nil, List.append_nil]
        rw [← htx] at hol
        have hos : o.size ≤ 192000 := by
          show o.data.toList.length ≤ _
          rw [ho.out]
          exact htl.out i
        have hfit : FitN [M5.bareT x] := fitN_cons.2 ⟨⟨hfx.1.1, hfx.1.2.1, hfx.1.2.2.1, by have := hfx.1.2.2.2; show 1 + x.attrs.length + M3.weight [] ≤ _; rw [M3.weight_nil]; omega⟩, fitN_nil, fitN_nil⟩
        have hrvB : ∀ W, Below w1.heap.size w1 W → Row (fun b => w.heap.size ≤ b ∧ b < w1.heap.size) W 2 (.slice a3 x.attrs.length e3) x.attrs.length (cellsA x.attrs) := fun W hW => hrv.at_.keep (w' := W) (fun b h => hW.block b h.2)
        have hTx : Hid (∀ (W : World) (g : Nat), Box W g 40 [.int .i64 x.kind, .string x.name, .slice a3 x.attrs.length e3, .string x.text, .slice none 0 0] → Below w1.heap.size w1 W → Calls Try.prog 25 #[.slice (some ⟨g, 0, none⟩) 1 1] W (fun e w' => e = .returned (.string ⟨(M4.textB false [M5.bareT x]).toArray⟩) ∧ Below W.heap.size W w')) := Lib.hid (fun W g hbx hW =>
          ref04Text (fun b => b < W.heap.size) (.slice (some ⟨g, 0, none⟩) 1 1) [M5.bareT x] W (fun b h => h) ⟨_, Row.freshW5 hbx hbx.lt rfl, RepC.cons_iff.2 ⟨.slice a3 x.attrs.length e3, .slice none 0 0, [], rfl, (hrvB W hW).mono (fun b h => Nat.lt_of_lt_of_le h.2 hW.size), RepN.nil _ _, RepC.nil _ _⟩⟩ hfit (by omega))
        have fin : Hid ((o ++ ⟨(M4.textB false [M5.bareT x]).toArray⟩ : ByteArray).data.toList = M4.textB false (M5.tagsN (L.take i) ++ [M5.bareT x])) := by
          show _ = _
          rw [M4.textB_append]
          simp [ho.out]
        have hss : (⟨(M4.textB false [M5.bareT x]).toArray⟩ : ByteArray).size ≤ 192800 := by
          show (M4.textB false [M5.bareT x]).toArray.size ≤ _
          rw [List.size_toArray]
          omega
        generalize (⟨(M4.textB false [M5.bareT x]).toArray⟩ : ByteArray) = so at *
        have h34 : ¬ (9223372036854775807 < o.size + so.size) := by omega
        have bo := (Below.refl _ wr).alloc (Nat.le_refl _) (.cells #[.int .i64 x.kind, .string x.name, .slice a3 x.attrs.length e3, .string x.text, .slice none 0 0] 40)
        have bx : Box ((wr.alloc (.cells #[.int .i64 x.kind, .string x.name, .slice a3 x.attrs.length e3, .string x.text, .slice none 0 0] 40)).alloc (.cells #[.int .i64 x.kind, .string x.name, .slice a3 x.attrs.length e3, .string x.text, .slice none 0 0] 40)) wr.heap.size 40 [.int .i64 x.kind, .string x.name, .slice a3 x.attrs.length e3, .string x.text, .slice none 0 0] := (Box.new wr 40 [.int .i64 x.kind, .string x.name, .slice a3 x.attrs.length e3, .string x.text, .slice none 0 0]).alloc _
        have by_ : Box ((wr.alloc (.cells #[.int .i64 x.kind, .string x.name, .slice a3 x.attrs.length e3, .string x.text, .slice none 0 0] 40)).alloc (.cells #[.int .i64 x.kind, .string x.name, .slice a3 x.attrs.length e3, .string x.text, .slice none 0 0] 40)) (wr.heap.size + 1) 40 [.int .i64 x.kind, .string x.name, .slice a3 x.attrs.length e3, .string x.text, .slice none 0 0] := by
          have := Box.new (wr.alloc (.cells #[.int .i64 x.kind, .string x.name, .slice a3 x.attrs.length e3, .string x.text, .slice none 0 0] 40)) 40 [.int .i64 x.kind, .string x.name, .slice a3 x.attrs.length e3, .string x.text, .slice none 0 0]
          rw [World.size_alloc] at this
          exact this
        have bo2 : Below wr.heap.size wr ((wr.alloc (.cells #[.int .i64 x.kind, .string x.name, .slice a3 x.attrs.length e3, .string x.text, .slice none 0 0] 40)).alloc (.cells #[.int .i64 x.kind, .string x.name, .slice a3 x.attrs.length e3, .string x.text, .slice none 0 0] 40)) := bo.alloc (by rw [World.size_alloc]; omega) _
        have hz2 : ((wr.alloc (.cells #[.int .i64 x.kind, .string x.name, .slice a3 x.attrs.length e3, .string x.text, .slice none 0 0] 40)).alloc (.cells #[.int .i64 x.kind, .string x.name, .slice a3 x.attrs.length e3, .string x.text, .slice none 0 0] 40)).heap.size = wr.heap.size + 2 := by simp
        have hownA := Lib.hid (own_keep5 hown (fun g hg => bo2.block g (hown.lt g hg).2))
        have hbA : Below w1.heap.size w1 ((wr.alloc (.cells #[.int .i64 x.kind, .string x.name, .slice a3 x.attrs.length e3, .string x.text, .slice none 0 0] 40)).alloc (.cells #[.int .i64 x.kind, .string x.name, .slice a3 x.attrs.length e3, .string x.text, .slice none 0 0] 40)) := hb.trans (bo2.mono hz)
        replace hwt := Lib.hid hwt
        replace htg := Lib.hid htg
        replace k1 := Lib.hid k1
        replace kr := Lib.hid kr
        replace kv := Lib.hid kv
        replace ht := Lib.hid ht
        replace hrep := Lib.hid hrep
        replace htx := Lib.hid htx
        replace hrvB := Lib.hid hrvB
        replace hol := Lib.hid hol
        replace hfit := Lib.hid hfit
        replace hown := Lib.hid hown
        go_wp2_with fail
        refine (hRw.out _).mono ?_
        rintro e _ ⟨rfl, rfl⟩
        go_wp2_with fail
        refine (hVd.out _).mono ?_
        rintro e _ ⟨rfl, rfl⟩
        go_wp2_with fail
        refine (hTx.out _ (wr.heap.size + 1) by_ hbA).mono ?_
        rintro e w5 ⟨rfl, hb5⟩
        have hb5A : Below w1.heap.size w1 w5 := hbA.trans (hb5.mono hbA.size)
        have hz5 := hb5.size
        have bx5 := bx.below hb5 (by omega)
        have d1 := bx5.cell (i := 1) rfl
        have d2 := bx5.cell (i := 2) rfl
        have hown5 := Lib.hid (own_keep5 hownA.out (fun g hg => hb5.block g (by have := (hown.out.lt g hg).2; omega)))
        clear bx by_ bo bo2 hownA
        revert hbA hz2 hb5 hz5
        generalize World.alloc (World.alloc wr _) _ = wa
        intro hbA hz2 hb5 hz5
        generalize hTi : M5.wantT (L.take i) = T at *
        go_wp2_with (at_builtin; refine wpList_appTwo5 w5 [.int .i64 1, .string x.name, .slice a3 x.attrs.length e3, .string ⟨#[]⟩, .int .i64 2, .string x.name, .slice none 0 0, .string ⟨#[]⟩] rfl _ _ 25 31 rfl w1.heap.size 4 Try.underlying25 infoT5 rfl (by omega) _ T.length zs rfl hown5.out w5.heap.size rfl (by rfl) rfl (by simp [Value.oneCell']) (by omega) (by omega) (by omega) ?_; intro g cp w6 hown6 hgrow6 hat6)
        have hb6 : Below w1.heap.size w1 w6 := hb5A.grown hgrow6 (by omega) (fun k hk => by have := (hown5.out.lt k hk).1; omega)
        have hrep6 : Hid (RepT (fun b => w.heap.size ≤ b ∧ b < w1.heap.size) w6 (zs ++ [.int .i64 1, .string x.name, .slice a3 x.attrs.length e3, .string ⟨#[]⟩, .int .i64 2, .string x.name, .slice none 0 0, .string ⟨#[]⟩]) (T ++ [⟨1, x.name, x.attrs, ⟨#[]⟩⟩, ⟨2, x.name, [], ⟨#[]⟩⟩])) := by
          show RepT _ _ _ _
          have := RepT.snoc (t := ⟨2, x.name, [], ⟨#[]⟩⟩) (va := .slice none 0 0) (Row.nil _ _ _) _ _ (RepT.snoc (t := ⟨1, x.name, x.attrs, ⟨#[]⟩⟩) (va := .slice a3 x.attrs.length e3) (hrvB.out w6 hb6) _ _ (RepT.keep (fun b h => (hb6.block b h.2).trans (hb.block b h.2).symm) _ _ hrep.out))
          rw [List.append_assoc, List.append_assoc] at this
          exact this
        replace hown6 := Lib.hid hown6
        replace hgrow6 := Lib.hid hgrow6
        replace hb5A := Lib.hid hb5A
        replace hTi := Lib.hid hTi
        go_roundw
        case rel => exact ⟨i + 1, o ++ so, _, by omega, by go_num, rfl, by rw [htg.out]; exact fin, by rw [hwt.out, List.length_append]; exact hown6.out, by rw [hwt.out]; exact hrep6.out, hb6⟩
        case measure => exact wr_meas5 hlt
      · rw [if_neg ht, List.append_nil] at htg hwt
        rw [← htg] at ho
        rw [← hwt] at hown hrep
        replace htg := Lib.hid htg
        replace hwt := Lib.hid hwt
        replace hown := Lib.hid hown
        replace hrep := Lib.hid hrep
        by_cases k1 : x.kind = 1
        · have k1b : (x.kind != 1) = false := by simpa using k1
          unfold M5.tellB at ht
          rw [k1] at ht
          replace k1 := Lib.hid k1
          generalize M3.rawB x.name.data.toList = rb at *
          generalize M3.voidB x.name.data.toList = vb at *
          cases rb
          · cases vb
            · exact absurd rfl ht
            · replace ht := Lib.hid ht
              go_wp2_with fail
              refine (hRw.out _).mono ?_
              rintro e _ ⟨rfl, rfl⟩
              go_wp2_with fail
              refine (hVd.out _).mono ?_
              rintro e _ ⟨rfl, rfl⟩
              go_wp2_with fail
              go_roundw
              case rel => exact ⟨i + 1, o, zs, by omega, by go_num, rfl, ho, hown.out, hrep.out, hb⟩
              case measure => exact wr_meas5 hlt
          · replace ht := Lib.hid ht
            go_wp2_with fail
            refine (hRw.out _).mono ?_
            rintro e _ ⟨rfl, rfl⟩
            go_wp2_with fail
            refine (hVd.out _).mono ?_
            rintro e _ ⟨rfl, rfl⟩
            go_wp2_with fail
            go_roundw
            case rel => exact ⟨i + 1, o, zs, by omega, by go_num, rfl, ho, hown.out, hrep.out, hb⟩
            case measure => exact wr_meas5 hlt
        · have k1b : (x.kind != 1) = true := by simpa using k1
          replace k1 := Lib.hid k1
          replace ht := Lib.hid ht
          go_wp2_with fail
          refine (hRw.out _).mono ?_
          rintro e _ ⟨rfl, rfl⟩
          go_wp2_with fail
          refine (hVd.out _).mono ?_
          rintro e _ ⟨rfl, rfl⟩
          go_wp2_with fail
          go_roundw
          case rel => exact ⟨i + 1, o, zs, by omega, by go_num, rfl, ho, hown.out, hrep.out, hb⟩
          case measure => exact wr_meas5 hlt
    · obtain rfl : i = L.length := by omega
      rw [List.take_length] at ho hown hrep
      obtain ⟨a5, c5, rfl⟩ := own_slice5 hown
      have hos : o.size ≤ 192000 := by
        show o.data.toList.length ≤ _
        rw [ho.out]
        have := htl.out L.length
        rw [List.take_length] at this
        exact this
      have hTk := fun (w : World) (hg : Glo w) => tokTokens o w hg (by omega)
      rw [ho.out, M5.tokens_eq, htold.out] at hTk
      replace hTk := Lib.hid hTk
      have hrE : Row (fun b => b < wr.heap.size) wr 4 (.slice a5 (M5.wantT L).length c5) (M5.wantT L).length zs := Row.own hown (fun g hg => (hown.lt g hg).2)
      have hrR : RepT (fun b => b < wr.heap.size) wr zs (M5.wantT L) := RepT.mono (fun b h => Nat.lt_of_lt_of_le h.2 hz) _ _ hrep
      have hbb0 := bt hb1 hb
      replace hown := Lib.hid hown
      replace hrep := Lib.hid hrep
      replace ho := Lib.hid ho
      generalize M5.wantT L = T at *
      go_wp2_with fail
      refine (hTk.out _ (hg.below hbb0 (Nat.le_refl _))).mono ?_
      rintro e w2 ⟨v2, rfl, hl2, hb2⟩
      obtain ⟨a2, c2, rfl⟩ := hl2.slice
      obtain ⟨xs2, hr2, hp2⟩ := hl2.rows
      have hSm := Lib.hid (ref05Same T _ _ _ _ xs2 zs w2 (fun b hb => hb.2) (fun b hb => Nat.lt_of_lt_of_le hb hb2.size) hr2 hp2 (hrE.keep (fun b hb => hb2.block b hb)) (RepT.keep (fun b hb => hb2.block b hb) _ _ hrR))
      clear hrE hrR hr2 hp2 hl2
      go_wp2_with fail
      refine hSm.out.mono ?_
      rintro e w3 ⟨rfl, hb3⟩
      have hbb3 := bt (bt hbb0 hb2) hb3
      go_wp2_with fail
      refine (lives05 _ (hg.below hbb3 (Nat.le_refl _))).mono ?_
      rintro e w5 ⟨rfl, hb5⟩
      have hbb := bt hbb3 hb5
      go_wp2_with fail
      go_ret
      exact ⟨rfl, hbb⟩
end Go.Proofs.Ytlknmnldblodbaa
