/- Texts joined: Lives3, Cut, Open3, Clone, Clone2, Math3m, Shal, Ref02, Ref02b, Ref02c, Ref03m, DomM, Refs, Refs2, DomM2. -/
import Derived.Deep.RegionHeld3
import Derived.Deep.AppendLies
import Derived.ChangeArms
import Derived.DataReads
import Derived.ChangeOld
import Derived.Laws.MakeOwn
import Derived.Laws.Entries
import Derived.Deep.QuietTactic
import Derived.BigQuiet
import Derived.IntWalk
import Derived.StillTailTactics
import Derived.BigCall
import Derived.Test.YtjelmpajphajfaaG1
import Derived.Test.YtjelmpajphajfaaG2
/- Layer 3's own example at the end of each law. -/
namespace Go.Proofs.Ytjelmpajphajfaa
open Go.RowKit

/-- The example's nodes. -/
def liveT : Nd := .mk 2 ⟨#[]⟩ [] ⟨#[120]⟩ []
def liveN : Nd := .mk 1 ⟨#[97]⟩ [⟨⟨#[105, 100]⟩, ⟨#[49]⟩⟩] ⟨#[]⟩ [liveT]
theorem live_fit : FitN [liveN] := by
  have h1 : M3.weight liveT.kids = 0 := by show M3.weight [] = 0; rw [M3.weight_nil]
  have h2 : M3.weight liveN.kids = 1 := by show M3.weight [liveT] = 1; rw [M3.weight_cons, h1, M3.weight_nil]; rfl
  refine fitN_cons.2 ⟨⟨by decide, by decide, ?_, by rw [h2]; decide⟩, fitN_cons.2 ⟨⟨by decide, by decide, ?_, by rw [h1]; decide⟩, fitN_nil, fitN_nil⟩, fitN_nil⟩
  · intro a ha; simp [liveN, Nd.attrs] at ha; subst ha; exact ⟨by decide, by decide⟩
  · intro a ha; simp [liveT, Nd.attrs] at ha
theorem live_weight : M3.weight [liveN] = 3 := by
  rw [M3.weight_cons, M3.weight_nil]
  show 1 + 1 + M3.weight [liveT] + 0 = 3
  rw [M3.weight_cons, M3.weight_nil]
  show 1 + 1 + (1 + 0 + M3.weight [] + 0) + 0 = 3
  rw [M3.weight_nil]
theorem isB_low (c : UInt8) (t : List UInt8) (h : c.toNat < 128) (h0 : c.toNat ≠ 0) (h13 : c.toNat ≠ 13) : M1.isB (c :: t) = M1.isB t := by
  rw [M1.isB_step _ (by simp), M2.dec_lo c t h]
  have h3 : c.toNat ≠ 65533 := by omega
  simp [h0, h13, h3]
theorem nilB_data (s : ByteArray) : M3.nilB s = s.data.toList.isEmpty := by unfold M3.nilB; rw [Lib.toList_data]
theorem mayE_ok {p : Bool} {x : Nd} {r : List Nd} (h1 : M3.oneE x p = 0) (h2 : M3.mayE false x.kids = 0) (h3 : M3.mayE (x.kind == 2) r = 0) : M3.mayE p (x :: r) = 0 := by
  rw [M3.mayE_cons]
  simp [h1, h2, h3]
theorem live_may : M3.mayE false [liveN] = 0 := by
  have e1 : M1.isB [120] = true := by rw [isB_low _ _ (by decide) (by decide) (by decide), M1.isB_nil]
  have e2 : M1.isB [105, 100] = true := by rw [isB_low _ _ (by decide) (by decide) (by decide), isB_low _ _ (by decide) (by decide) (by decide), M1.isB_nil]
  have e3 : M1.isB [49] = true := by rw [isB_low _ _ (by decide) (by decide) (by decide), M1.isB_nil]
  have t1 : M3.oneE liveT false = 0 := by
    show M3.oneE (.mk 2 ⟨#[]⟩ [] ⟨#[120]⟩ []) false = 0
    rw [M3.oneE_mk]
    have : M1.isB (⟨#[120]⟩ : ByteArray).data.toList = true := e1
    unfold M3.oneF M3.kindlyF M3.plainF
    rw [this, nilB_data, nilB_data]
    decide
  have a1 : M3.attributedB [105, 100] = true := by
    unfold M3.attributedB
    rw [e2]
    decide
  have n1 : M3.namesE [] [⟨⟨#[105, 100]⟩, ⟨#[49]⟩⟩] = 0 := by
    rw [M3.namesE]
    have : M3.attributedB (⟨#[105, 100]⟩ : ByteArray).data.toList = true := a1
    rw [this]
    rfl
  have v1 : M3.valuesE [⟨⟨#[105, 100]⟩, ⟨#[49]⟩⟩] = 0 := by
    rw [M3.valuesE]
    have : M1.isB (⟨#[49]⟩ : ByteArray).data.toList = true := e3
    rw [this]
    rfl
  have t2 : M3.oneE liveN false = 0 := by
    show M3.oneE (.mk 1 ⟨#[97]⟩ [⟨⟨#[105, 100]⟩, ⟨#[49]⟩⟩] ⟨#[]⟩ [liveT]) false = 0
    rw [M3.oneE_mk]
    unfold M3.oneF M3.elemF M3.kindlyF
    rw [n1, v1, nilB_data]
    rfl
  exact mayE_ok t2 (mayE_ok t1 (M3.mayE_nil _) (M3.mayE_nil _)) (M3.mayE_nil _)

theorem Row.fresh {S : Nat → Prop} {w : World} {g : Nat} {e : TypeId} {cs : List Value} {k n : Nat} (h : Box w g e cs) (hS : S g) (hn : cs.length = n * k) (hl : n ≤ 1000000) : Row S w k (.slice (some ⟨g, 0, none⟩) n n) n cs :=
  ⟨hn, _, n, rfl, Nat.le_refl _, by omega, (fun h => by cases h), fun _ => ⟨g, 0, rfl, hS, fun j u hu => by rw [Nat.zero_add]; exact h.cell hu⟩⟩

set_option maxHeartbeats 1000000 in
set_option maxRecDepth 100000 in
theorem lives03 (w : World) : Calls Try.prog 18 #[] w fun e w' => e = .returned (.bool true) ∧ Below w.heap.size w w' := by
  have b0 := ((Box.new w 44 [.string ⟨#[105, 100]⟩, .string ⟨#[49]⟩]).alloc (.cells #[.int .i64 2, .string ⟨#[]⟩, .slice none 0 0, .string ⟨#[120]⟩, .slice none 0 0] 28)).alloc (.cells #[.int .i64 1, .string ⟨#[97]⟩, .slice (some ⟨w.heap.size, 0, none⟩) 1 1, .string ⟨#[]⟩, .slice (some ⟨w.heap.size + 1, 0, none⟩) 1 1] 28)
  have b1 := (Box.new (w.alloc (.cells #[.string ⟨#[105, 100]⟩, .string ⟨#[49]⟩] 44)) 28 [.int .i64 2, .string ⟨#[]⟩, .slice none 0 0, .string ⟨#[120]⟩, .slice none 0 0]).alloc (.cells #[.int .i64 1, .string ⟨#[97]⟩, .slice (some ⟨w.heap.size, 0, none⟩) 1 1, .string ⟨#[]⟩, .slice (some ⟨w.heap.size + 1, 0, none⟩) 1 1] 28)
  have b2 := Box.new ((w.alloc (.cells #[.string ⟨#[105, 100]⟩, .string ⟨#[49]⟩] 44)).alloc (.cells #[.int .i64 2, .string ⟨#[]⟩, .slice none 0 0, .string ⟨#[120]⟩, .slice none 0 0] 28)) 28 [.int .i64 1, .string ⟨#[97]⟩, .slice (some ⟨w.heap.size, 0, none⟩) 1 1, .string ⟨#[]⟩, .slice (some ⟨w.heap.size + 1, 0, none⟩) 1 1]
  simp only [World.size_alloc] at b1 b2
  have hB : Below w.heap.size w (((w.alloc (.cells #[.string ⟨#[105, 100]⟩, .string ⟨#[49]⟩] 44)).alloc (.cells #[.int .i64 2, .string ⟨#[]⟩, .slice none 0 0, .string ⟨#[120]⟩, .slice none 0 0] 28)).alloc (.cells #[.int .i64 1, .string ⟨#[97]⟩, .slice (some ⟨w.heap.size, 0, none⟩) 1 1, .string ⟨#[]⟩, .slice (some ⟨w.heap.size + 1, 0, none⟩) 1 1] 28)) :=
    (((Below.refl _ w).alloc (Nat.le_refl _) _).alloc (by simp) _).alloc (by simp; omega) _
  go_enter Try.func18, Try.ntmps18
  go_wp2_with (fail)
  obtain ⟨W, hW⟩ : ∃ W, ((w.alloc (.cells #[.string ⟨#[105, 100]⟩, .string ⟨#[49]⟩] 44)).alloc (.cells #[.int .i64 2, .string ⟨#[]⟩, .slice none 0 0, .string ⟨#[120]⟩, .slice none 0 0] 28)).alloc (.cells #[.int .i64 1, .string ⟨#[97]⟩, .slice (some ⟨w.heap.size, 0, none⟩) 1 1, .string ⟨#[]⟩, .slice (some ⟨w.heap.size + 1, 0, none⟩) 1 1] 28) = W := ⟨_, rfl⟩
  change Box (((w.alloc (.cells #[.string ⟨#[105, 100]⟩, .string ⟨#[49]⟩] 44)).alloc (.cells #[.int .i64 2, .string ⟨#[]⟩, .slice none 0 0, .string ⟨#[120]⟩, .slice none 0 0] 28)).alloc (.cells #[.int .i64 1, .string ⟨#[97]⟩, .slice (some ⟨w.heap.size, 0, none⟩) 1 1, .string ⟨#[]⟩, .slice (some ⟨w.heap.size + 1, 0, none⟩) 1 1] 28)) _ _ _ at b0 b1 b2
  rw [hW] at b0 b1 b2 hB ⊢
  clear hW
  have hR : RepN (fun b => b < W.heap.size) W (.slice (some ⟨w.heap.size + 1 + 1, 0, none⟩) 1 1) [liveN] := by
    refine ⟨_, Row.fresh b2 b2.lt rfl (by decide), RepC.cons_iff.2 ⟨_, _, _, rfl, Row.fresh b0 b0.lt rfl (by decide), ⟨_, Row.fresh b1 b1.lt rfl (by decide), ?_⟩, RepC.nil _ _⟩⟩
    exact RepC.cons_iff.2 ⟨_, _, _, rfl, Row.nil _ _ _, RepN.nil _ _, RepC.nil _ _⟩
  have hWt := Lib.hid (domWeight _ _ _ W (fun b h => h) hR live_fit (by rw [live_weight]; decide))
  have hMy := Lib.hid (fun W' hS hR => domMay (fun b => b < W.heap.size) (.slice (some ⟨w.heap.size + 1 + 1, 0, none⟩) 1 1) [liveN] W' hS hR live_fit)
  rw [live_weight] at hWt
  rw [live_may] at hMy
  refine hWt.out.mono ?_
  rintro e w1 ⟨rfl, hb1⟩
  have hR1 := hR.below (fun b h => h) hb1
  clear b0 b1 b2 hWt
  go_wp2_with (fail)
  refine (hMy.out w1 (fun b h => by have := hb1.size; omega) hR1).mono ?_
  rintro e w2 ⟨rfl, hb2⟩
  have hv : M3.voidB [98, 114] = true := by decide
  have hrw : M3.rawB [115, 116, 121, 108, 101] = true := by decide
  have hVd := Lib.hid (domVoid ⟨#[98, 114]⟩)
  have hRw := Lib.hid (domRaw ⟨#[115, 116, 121, 108, 101]⟩)
  go_wp2_with (fail)
  refine (hVd.out _).mono ?_
  rintro e w3 ⟨rfl, hw3⟩
  rw [hw3]
  clear hw3 w3
  go_wp2_with (fail)
  refine (hRw.out _).mono ?_
  rintro e w3 ⟨rfl, hw3⟩
  rw [hw3]
  clear hw3 w3
  go_wp2
  go_ret
  exact ⟨rfl, (hB.trans (hb1.mono hB.size)).trans (hb2.mono (by have := hb1.size; have := hB.size; omega))⟩
end Go.Proofs.Ytjelmpajphajfaa

/- The reference's cut: nodes, few of all. -/
namespace Go.Proofs.Ytjelmpajphajfaa
open Go.RowKit

theorem infoA : (Try.prog.info? 44).map (fun i => (i.zero, i.size, i.bytes)) = some (some (.agg #[.string ⟨#[]⟩, .string ⟨#[]⟩]), 2, 32) := by kernel_rfl
theorem infoN : (Try.prog.info? 28).map (fun i => (i.zero, i.size, i.bytes)) = some (some (.agg #[.int .i64 0, .string ⟨#[]⟩, .slice none 0 0, .string ⟨#[]⟩, .slice none 0 0]), 5, 88) := by kernel_rfl

set_option maxHeartbeats 1000000 in
theorem ref03few (s : ByteArray) (w : World) (hs : s.size ≤ 9223372036854775807) : Calls Try.prog 67 #[.string s] w fun e w' => e = .returned (.string (M3.few s)) ∧ w = w' := by
  unfold M3.few
  by_cases h : 30 < s.size
  · rw [if_pos h]
    go_enter Try.func67, Try.ntmps67
    go_wp2
    go_ret
    exact ⟨rfl, rfl⟩
  · rw [if_neg h]
    go_enter Try.func67, Try.ntmps67
    go_wp2
    go_ret
    exact ⟨rfl, rfl⟩

/-- All texts are shorter than any that there can be. -/
def SzN : List Nd → Prop
  | [] => True
  | .mk _ n a t ks :: r => (n.size ≤ 9223372036854775807 ∧ t.size ≤ 9223372036854775807 ∧ ∀ x ∈ a, x.name.size ≤ 9223372036854775807 ∧ x.value.size ≤ 9223372036854775807) ∧ SzN ks ∧ SzN r
termination_by l => SizeOf.sizeOf l
def Sz1 (x : Nd) : Prop := x.name.size ≤ 9223372036854775807 ∧ x.text.size ≤ 9223372036854775807 ∧ ∀ a ∈ x.attrs, a.name.size ≤ 9223372036854775807 ∧ a.value.size ≤ 9223372036854775807
theorem szN_cons {x : Nd} {r : List Nd} : SzN (x :: r) ↔ Sz1 x ∧ SzN x.kids ∧ SzN r := by cases x; rw [SzN]; rfl
theorem szN_mem {x : Nd} {l : List Nd} (h : SzN l) (hx : x ∈ l) : Sz1 x ∧ SzN x.kids := by
  induction l with
  | nil => cases hx
  | cons y r ih =>
    obtain ⟨h1, h2, h3⟩ := szN_cons.1 h
    rcases List.mem_cons.1 hx with rfl | hx
    · exact ⟨h1, h2⟩
    · exact ih h3 hx

/-- What a call hands back that it has made: a row of its own, from B on, and what stands in it. -/
def Made (w' : World) (B : Nat) (v : Value) (l : List Nd) : Prop := ∃ zs, w'.ownsRow B 28 5 v l.length zs ∧ RepC (fun b => B ≤ b ∧ b < w'.heap.size ∧ v.ownBlock ≠ some b) w' zs l
theorem Made.rep {w' : World} {B : Nat} {v : Value} {l : List Nd} (h : Made w' B v l) : RepN (fun b => B ≤ b ∧ b < w'.heap.size) w' v l := by
  obtain ⟨zs, h1, h2⟩ := h
  exact ⟨zs, Row.own h1 (fun g hg => h1.lt g hg), RepC.mono (fun b hb => ⟨hb.1, hb.2.1⟩) _ _ h2⟩
def CutPost (l : List Nd) (m : Nat) (w : World) (e : Ending) (w' : World) : Prop := ∃ v', e = .returned (.tuple #[v', .int .i64 ((M3.cut l m).2 : Int)]) ∧ Made w' w.heap.size v' (M3.cut l m).1 ∧ Below w.heap.size w w'

theorem cells_one {x : Nd} {a1 a2 : Option Addr} {n1 c1 n2 c2 : Nat} : ∀ u ∈ x.cells (.slice a1 n1 c1) (.slice a2 n2 c2), u.oneCell' = true := by
  intro u hu
  simp at hu
  rcases hu with rfl | rfl | rfl | rfl | rfl <;> rfl

/-- 'append(out, x)' behind nodes that the call has made. -/
theorem Made.snoc {W w5 : World} {B g : Nat} {u : Value} {A : List Nd} {zs : List Value} {x : Nd} {va vk : Value} {cap n : Nat} {SA SX : Nat → Prop} (hn : n = A.length + 1)
    (hown5 : w5.ownsRow B 28 5 (.slice (some ⟨g, 0, none⟩) n cap) n (zs ++ x.cells va vk)) (hgrow : W.grownBy w5 u.ownBlock) (hat : u.ownBlock = some g ∨ W.heap.size ≤ g)
    (hA : RepC SA W zs A) (hSA : ∀ b, SA b → B ≤ b ∧ b < W.heap.size ∧ u.ownBlock ≠ some b)
    (hx : RepV SX W x va vk) (hSX : ∀ b, SX b → B ≤ b ∧ b < W.heap.size ∧ u.ownBlock ≠ some b) : Made w5 B (.slice (some ⟨g, 0, none⟩) n cap) (A ++ [x]) := by
  subst hn
  have hk : ∀ b, (B ≤ b ∧ b < W.heap.size ∧ u.ownBlock ≠ some b) → w5.heap[b]? = W.heap[b]? := fun b h => hgrow.block b h.2.1 (fun e => h.2.2 e.symm)
  have hm : ∀ b, (B ≤ b ∧ b < W.heap.size ∧ u.ownBlock ≠ some b) → B ≤ b ∧ b < w5.heap.size ∧ (Value.slice (some ⟨g, 0, none⟩) (A.length + 1) cap).ownBlock ≠ some b := fun b h => ⟨h.1, Nat.lt_of_lt_of_le h.2.1 hgrow.size, fun e => by
    simp [Value.ownBlock] at e
    subst e
    rcases hat with h1 | h1
    · exact h.2.2 h1
    · omega⟩
  refine ⟨zs ++ x.cells va vk, by simpa using hown5, RepC.append (RepC.single ((hx.keep fun b h => hk b (hSX b h)).mono fun b h => hm b (hSX b h))) _ _ ?_⟩
  exact RepC.mono (fun b h => hm b (hSA b h)) _ _ (RepC.keep (fun b h => hk b (hSA b h)) _ _ hA)
theorem own_slice {w : World} {B : Nat} {e : TypeId} {k n : Nat} {v : Value} {xs : List Value} (h : w.ownsRow B e k v n xs) : ∃ a c, v = .slice a n c := by
  rcases h.2 with ⟨rfl, rfl⟩ | ⟨g, cap, _, rfl, _⟩
  · exact ⟨_, _, rfl⟩
  · exact ⟨_, _, rfl⟩
theorem own_keep {w w' : World} {B : Nat} {e : TypeId} {k n : Nat} {v : Value} {xs : List Value} (h : w.ownsRow B e k v n xs) (hk : ∀ g, v.ownBlock = some g → w'.heap[g]? = w.heap[g]?) : w'.ownsRow B e k v n xs := by
  refine ⟨h.1, ?_⟩
  rcases h.2 with hn | ⟨g, cap, cur, rfl, hb, hg, rest⟩
  · exact .inl hn
  · exact .inr ⟨g, cap, cur, rfl, hb, (hk g rfl).trans hg, rest⟩
theorem own_base {w : World} {B B' : Nat} {e : TypeId} {k n : Nat} {v : Value} {xs : List Value} (h : w.ownsRow B e k v n xs) (hb : ∀ g, v.ownBlock = some g → B' ≤ g) : w.ownsRow B' e k v n xs := by
  refine ⟨h.1, ?_⟩
  rcases h.2 with hn | ⟨g, cap, cur, rfl, _, rest⟩
  · exact .inl hn
  · exact .inr ⟨g, cap, cur, rfl, hb g rfl, rest⟩

set_option maxHeartbeats 8000000 in
set_option maxRecDepth 100000 in
theorem ref03Cut (m : Nat) : ∀ (S : Nat → Prop) (v : Value) (l : List Nd) (w : World), (∀ b, S b → b < w.heap.size) → RepN S w v l → SzN l → m ≤ 1000 →
    Calls Try.prog 42 #[v, .int .i64 (m : Int)] w (CutPost l m w) := by
  induction m using Nat.strongRecOn with
  | ind m ih =>
    intro S v l w hS hr hsz hm
    obtain ⟨a, cap, rfl⟩ := hr.slice
    obtain ⟨_, hlc, hcm⟩ := hr.len
    go_enter Try.func42, Try.ntmps42
    go_wp2_with (fail)
    go_loopw [1, 6, 7] (fun u1 u6 u7 wr => ∃ (i mi : Nat) (A : List Nd), i ≤ l.length ∧ u7 = .int .i64 (i : Int) ∧ u1 = .int .i64 (mi : Int) ∧ A.length + mi ≤ m ∧ Made wr w.heap.size u6 A ∧ Below w.heap.size w wr ∧ Hid ((M3.cut l m).1 = A ++ (M3.cut (l.drop i) mi).1 ∧ (M3.cut l m).2 = (M3.cut (l.drop i) mi).2)) (fun _ _ u7 _ => l.length - (intOf u7).toNat)
    case atStart => exact ⟨0, m, [], by omega, rfl, rfl, by simp, ⟨[], World.ownsRow_nil _ _ _ _, RepC.nil _ _⟩, Below.refl _ _, rfl, rfl⟩
    case round =>
      obtain ⟨i, mi, A, hi, rfl, rfl, hAm, ⟨zs, hown, hrepA⟩, hb, hc⟩ := hrel
      obtain ⟨wo, rfl⟩ : ∃ wo : World, wo = wr := ⟨_, rfl⟩
      have hz := hb.size
      by_cases hlt : i < l.length
      · by_cases hmi : 0 < mi
        · obtain ⟨mj, rfl⟩ : ∃ mj, mi = mj + 1 := ⟨mi - 1, by omega⟩
          obtain ⟨b, off, va, vk, rfl, hSb, c0, c1, c2, c3, c4, hrv⟩ := (hr.below hS hb).at_ i hlt
          have hbl := hS b hSb
          have hdr : l.drop i = l[i] :: l.drop (i + 1) := List.drop_eq_getElem_cons hlt
          rw [hdr, M3.cut_cons] at hc
          obtain ⟨hs1, hs2⟩ := szN_mem hsz (List.getElem_mem hlt)
          clear hdr
          generalize l[i] = x at *
          obtain ⟨hat, hkd⟩ := hrv
          obtain ⟨a1, cap1, rfl⟩ := hat.slice
          obtain ⟨_, hlc1, hcm1⟩ := hat.len
          obtain ⟨a2, cap2, rfl⟩ := hkd.slice
          have hx0 := Box.new wo 28 (x.cells (.slice a1 x.attrs.length cap1) (.slice a2 x.kids.length cap2))
          have hz1 : wo.heap.size < (wo.alloc (.cells (x.cells (.slice a1 x.attrs.length cap1) (.slice a2 x.kids.length cap2)).toArray 28)).heap.size := by simp
          have hbz : Below wo.heap.size wo (wo.alloc (.cells (x.cells (.slice a1 x.attrs.length cap1) (.slice a2 x.kids.length cap2)).toArray 28)) := (Below.refl _ _).alloc (Nat.le_refl _) _
          have hfn := Lib.hid (fun W => ref03few x.name W hs1.1)
          have hft := Lib.hid (fun W => ref03few x.text W hs1.2.1)
          have hihk := fun W h1 h2 => ih mj (by omega) S (.slice a2 x.kids.length cap2) x.kids W h1 h2 hs2 (by omega)
          replace hihk := Lib.hid hihk
          go_wp2_with (fail)
          refine (hfn.out _).mono ?_
          rintro e w1 ⟨rfl, rfl⟩
          go_wp2_with (fail)
          refine (hft.out _).mono ?_
          rintro e w1 ⟨rfl, rfl⟩
          go_wp2_with (fail)
          have bx1 := Box.new wo 28 [.int .i64 x.kind, .string (M3.few x.name), .slice a1 x.attrs.length cap1, .string (M3.few x.text), .slice a2 x.kids.length cap2]
          have hbz1 : Below wo.heap.size wo (wo.alloc (.cells #[.int .i64 x.kind, .string (M3.few x.name), .slice a1 x.attrs.length cap1, .string (M3.few x.text), .slice a2 x.kids.length cap2] 28)) := (Below.refl _ _).alloc (Nat.le_refl _) _
          have hsz1 : (wo.alloc (.cells #[.int .i64 x.kind, .string (M3.few x.name), .slice a1 x.attrs.length cap1, .string (M3.few x.text), .slice a2 x.kids.length cap2] 28)).heap.size = wo.heap.size + 1 := by simp
          change Box (wo.alloc (.cells #[.int .i64 x.kind, .string (M3.few x.name), .slice a1 x.attrs.length cap1, .string (M3.few x.text), .slice a2 x.kids.length cap2] 28)) _ _ _ at bx1
          clear hx0 hz1 hbz hfn hft c0 c1 c2 c3 c4
          obtain ⟨W1, hW1⟩ : ∃ W1, wo.alloc (.cells #[.int .i64 x.kind, .string (M3.few x.name), .slice a1 x.attrs.length cap1, .string (M3.few x.text), .slice a2 x.kids.length cap2] 28) = W1 := ⟨_, rfl⟩
          rw [hW1] at bx1 hbz1 hsz1 ⊢
          clear hW1
          refine (hihk.out W1 (fun b h => by have := hS b h; omega) (hkd.keep fun b h => hbz1.block b (by have := hS b h; omega))).mono ?_
          rintro e w2 ⟨v2, rfl, ⟨zs2, hown2, hrep2⟩, hb2⟩
          obtain ⟨a3, cap3, rfl⟩ := own_slice hown2
          have hle2 := M3.cut_le x.kids mj
          have hz2 := hb2.size
          have bx2 := bx1.below hb2 (by omega)
          have d2 := bx2.cell (i := 2) rfl
          have d4 := bx2.cell (i := 4) rfl
          have f4 := bx2.free 4
          have hbr2 : Below wo.heap.size wo w2 := hbz1.trans (hb2.mono (by omega))
          clear hihk bx1
          replace hsz1 := Lib.hid hsz1
          generalize hkc : (M3.cut x.kids mj).1 = ks' at *
          generalize hmc : (M3.cut x.kids mj).2 = m2 at *
          replace hkc := Lib.hid hkc
          replace hmc := Lib.hid hmc
          go_wp2_with (fail)
          have bx3 := bx2.set 4 (.slice a3 ks'.length cap3)
          have hbr3 : Below wo.heap.size wo (w2.setCell ⟨wo.heap.size, 4, none⟩ (.slice a3 ks'.length cap3)) := hbr2.setCell (p := ⟨wo.heap.size, 4, none⟩) (Nat.le_refl _) _
          have hne2 : ∀ b, W1.heap.size ≤ b → (w2.setCell ⟨wo.heap.size, 4, none⟩ (.slice a3 ks'.length cap3)).heap[b]? = w2.heap[b]? := fun b h => Below.heap_setCell _ _ _ _ (by have := hsz1.out; simp; omega)
          have hz3 : (w2.setCell ⟨wo.heap.size, 4, none⟩ (.slice a3 ks'.length cap3)).heap.size = w2.heap.size := by simp [World.setCell]
          have hown3 := own_keep hown2 (fun g hg => hne2 g (hown2.lt g hg).1)
          have hrep3 := RepC.keep (fun b hb => hne2 b hb.1) _ _ hrep2
          simp only [List.set_cons_succ, List.set_cons_zero] at bx3
          obtain ⟨W2, hW2⟩ : ∃ W2, w2.setCell ⟨wo.heap.size, 4, none⟩ (.slice a3 ks'.length cap3) = W2 := ⟨_, rfl⟩
          rw [hW2] at bx3 hbr3 hz3 hown3 hrep3 ⊢
          clear hW2 hne2 d2 d4 f4 bx2 hown2 hrep2 hbr2
          have hgl := bx3.lt
          obtain ⟨i0, hi0, hz00, hz01, hz02⟩ := info_parts infoA
          replace hkd := Lib.hid hkd
          replace hrep3 := Lib.hid hrep3
          replace hown3 := Lib.hid hown3
          replace hrepA := Lib.hid hrepA
          replace hown := Lib.hid hown
          have hSz2 : ∀ b, S b → b < W2.heap.size := fun b h => by have := hS b h; omega
          go_loopw [9, 10] (fun u9 u10 wr => ∃ k : Nat, k ≤ 5 ∧ k ≤ x.attrs.length ∧ u10 = .int .i64 (k : Int) ∧ wr.ownsRow W2.heap.size 44 2 u9 k (cellsA ((x.attrs.take k).map M3.fewA)) ∧ Below W2.heap.size W2 wr) (fun _ u10 _ => 5 - (intOf u10).toNat)
          case atStart => exact ⟨0, by omega, by omega, rfl, World.ownsRow_nil _ _ _ _, Below.refl _ _⟩
          case round =>
            obtain ⟨k, hk5, hkl, rfl, hown4, hb4⟩ := hrel
            have hz4 := hb4.size
            have bx4 := bx3.below hb4 hgl
            have e2 := bx4.cell (i := 2) rfl
            by_cases hk : k < 5 ∧ k < x.attrs.length
            · obtain ⟨hk1, hk2⟩ := hk
              obtain ⟨b', off', rfl, hSb', q0, q1⟩ := (hat.keep (w' := wr) (fun b h => ((hb4.block b (hSz2 b h)).trans (hbr3.block b (by have := hS b h; omega))))).atA k hk2
              have hbl' := hS b' hSb'
              obtain ⟨hsa, hsb⟩ := hs1.2.2 _ (List.getElem_mem hk2)
              have htk : cellsA ((x.attrs.take (k + 1)).map M3.fewA) = cellsA ((x.attrs.take k).map M3.fewA) ++ [.string (M3.few x.attrs[k].name), .string (M3.few x.attrs[k].value)] := by
                rw [List.take_succ_eq_append_getElem hk2, List.map_append, cellsA_append]; rfl
              generalize x.attrs[k].name = nm at *
              generalize x.attrs[k].value = vl at *
              replace htk := Lib.hid htk
              have ag : u9.ownBlock ≠ some wo.heap.size := fun e => by have := (hown4.lt _ e).1; omega
              have ab : u9.ownBlock ≠ some b' := fun e => by have := (hown4.lt _ e).1; omega
              go_wp2_with (fail)
              go_region_held3 (fun w' => w'.cell? ⟨wo.heap.size, 2, none⟩ = some (.slice (some ⟨b', off', none⟩) x.attrs.length cap1) ∧ w'.cell? ⟨b', off' + k * 2, none⟩ = some (.string nm) ∧ w'.cell? ⟨b', off' + k * 2 + 1, none⟩ = some (.string vl))
                (first
                  | go_keep
                  | (go_split_ands
                     refine ⟨?_, ?_, ?_⟩
                     · (rw [hgrow.cell_far _ (by simp; omega) (Ne.symm ag)]; assumption)
                     · (rw [hgrow.cell_far _ (by simp; omega) (Ne.symm ab)]; assumption)
                     · (rw [hgrow.cell_far _ (by simp; omega) (Ne.symm ab)]; assumption)))
                (first
                  | (go_at_call 67; refine (ref03few _ _ (by assumption)).mono ?_; rintro e w' ⟨rfl, rfl⟩)
                  | (refine step_append_lies _ (by rfl) _ _ _ (by rfl) W2.heap.size 44 i0 _ 2 32 Try.underlying26 hi0 hz00 hz01 hz02 rfl (by omega) u9 k _ (by rfl) ((hown4.alloc _).drew)
                      ⟨wr.heap.size, 0, none⟩ 1 1 [.string (M3.few nm), .string (M3.few vl)] (by rfl) (by rfl) (World.news_of_block (cs := #[.string (M3.few nm), .string (M3.few vl)]) (t := 44) (fr := (0, 0)) (heap_alloc_new wr _)) (by simp [Value.oneCell'])
                      (by omega) (by unfold maxLen; omega) (by omega) (by simp; omega) (wr.heap.size + 1) (by simp) ?_; intro gg cap' w5 hown5 hgrow hat5 hlt5))
              have hb5 : Below W2.heap.size W2 w5 := ((hb4.alloc hz4 (.cells #[.string (M3.few nm), .string (M3.few vl)] 44)).drew).grown hgrow (by simp; omega) (fun g hg => (hown4.lt g hg).1)
              have hown6 : w5.ownsRow W2.heap.size 44 2 (.slice (some ⟨gg, 0, none⟩) (k + 1) cap') (k + 1) (cellsA ((x.attrs.take (k + 1)).map M3.fewA)) := by rw [htk.out]; exact hown5
              clear hown5 hgrow hat5
              go_wp2
              go_roundw
              case rel => exact ⟨k + 1, by omega, by omega, by go_num, hown6, hb5⟩
              case measure => simp [intOf]; omega
            · have htk : (x.attrs.take 5).map M3.fewA = (x.attrs.take k).map M3.fewA := by
                rcases Nat.lt_or_ge k 5 with h | h
                · rw [List.take_of_length_le (show x.attrs.length ≤ 5 by omega), List.take_of_length_le (show x.attrs.length ≤ k by omega)]
                · rw [show k = 5 by omega]
              have hlk : ((x.attrs.take k).map M3.fewA).length = k := by simp; omega
              rw [← htk] at hown4 hlk
              generalize hat' : (x.attrs.take 5).map M3.fewA = ats' at *
              replace hat' := Lib.hid hat'
              replace htk := Lib.hid htk
              replace hlk := Lib.hid hlk
              obtain ⟨a4, cap4, rfl⟩ := own_slice hown4
              have f2 := bx4.free 2
              have e0 := bx4.cell (i := 0) rfl
              have e1 := bx4.cell (i := 1) rfl
              have e3 := bx4.cell (i := 3) rfl
              have e4 := bx4.cell (i := 4) rfl
              have hbr4 : Below wo.heap.size wo wr := hbr3.trans (hb4.mono (by omega))
              obtain ⟨j0, hj0, hj00, hj01, hj02⟩ := info_parts infoN
              have hownW := own_keep hown.out (fun g hg => hbr4.block g (hown.out.lt g hg).2)
              have hlz := hbr4.size
              have hz5 : (wr.setCell ⟨wo.heap.size, 2, none⟩ (.slice a4 k cap4)).heap.size = wr.heap.size := by simp [World.setCell]
              have hb5 : Below wo.heap.size wo (wr.setCell ⟨wo.heap.size, 2, none⟩ (.slice a4 k cap4)) := hbr4.setCell (p := ⟨wo.heap.size, 2, none⟩) (Nat.le_refl _) _
              have hfar : ∀ b, b ≠ wo.heap.size → (wr.setCell ⟨wo.heap.size, 2, none⟩ (.slice a4 k cap4)).heap[b]? = wr.heap[b]? := fun b h => Below.heap_setCell _ _ _ _ (by simpa using h)
              have hownW2 := own_keep hownW (fun g hg => hfar g (by have := (hownW.lt g hg); have := (hown.out.lt g hg).2; omega))
              have hnews : ∀ j u, ([.int .i64 x.kind, .string (M3.few x.name), .slice a4 k cap4, .string (M3.few x.text), .slice a3 ks'.length cap3] : List Value)[j]? = some u →
                  ((wr.setCell ⟨wo.heap.size, 2, none⟩ (.slice a4 k cap4)).alloc (.cells #[.int .i64 x.kind, .string (M3.few x.name), .slice a4 k cap4, .string (M3.few x.text), .slice a3 ks'.length cap3] 28)).cell? ((⟨wr.heap.size, 0, none⟩ : Addr).add j) = some u := by
                rw [← hz5]
                exact World.news_of_block (cs := #[.int .i64 x.kind, .string (M3.few x.name), .slice a4 k cap4, .string (M3.few x.text), .slice a3 ks'.length cap3]) (t := 28) (fr := (0, 0)) (heap_alloc_new _ _)
              -- the new node, as it lies behind the store
              have hatN := own_keep hown4 (fun g hg => hfar g (by have := (hown4.lt g hg).1; omega))
              have hownK := own_keep (own_keep hown3.out (fun g hg => hb4.block g (hown3.out.lt g hg).2)) (fun g hg => hfar g (by have := (hown3.out.lt g hg).1; have := hsz1.out; omega))
              have hrepK : RepC (fun b => W1.heap.size ≤ b ∧ b < w2.heap.size ∧ (Value.slice a3 ks'.length cap3).ownBlock ≠ some b) (wr.setCell ⟨wo.heap.size, 2, none⟩ (.slice a4 k cap4)) zs2 ks' :=
                RepC.keep (fun b h => (hfar b (by have := h.1; have := hsz1.out; omega)).trans (hb4.block b (by have := h.2.1; omega))) _ _ hrep3.out
              have hrepA2 : RepC (fun b => w.heap.size ≤ b ∧ b < wo.heap.size ∧ u6.ownBlock ≠ some b) (wr.setCell ⟨wo.heap.size, 2, none⟩ (.slice a4 k cap4)) zs A := RepC.keep (fun b h => hb5.block b h.2.1) _ _ hrepA.out
              have hlA := hown.out.1
              have hownK3 := Lib.hid (fun g hg => (hown3.out.lt g hg).2)
              replace hrepK := Lib.hid hrepK
              replace hrepA2 := Lib.hid hrepA2
              replace hatN := Lib.hid hatN
              replace hownK := Lib.hid hownK
              replace hnews := Lib.hid hnews
              replace hfar := Lib.hid hfar
              replace hz5 := Lib.hid hz5
              clear hrepA hrep3 hown3 hown4 hownW
              have hgb6 : u6.ownBlock ≠ some wo.heap.size := fun e => by have := (hown.out.lt _ e).2; omega
              have htest : (decide (k < x.attrs.length) = false) ∨ (decide (k < x.attrs.length) = true ∧ decide ((k : Int) < 5) = false) := by
                by_cases h : k < x.attrs.length
                · exact Or.inr ⟨decide_eq_true (by omega), decide_eq_false (by omega)⟩
                · exact Or.inl (decide_eq_false (by omega))
              clear hk
              rcases htest with htest | ⟨htest, htest2⟩
              all_goals
                go_wp2_with (at_builtin; refine wpList_append_lies _ rfl _ _ 22 rfl w.heap.size 28 j0 _ 5 88 Try.underlying22 hj0 hj00 hj01 hj02 rfl (by omega) u6 A.length zs rfl (hownW2.alloc _) ⟨wr.heap.size, 0, none⟩ 1 1 _ rfl rfl hnews.out (by simp [Value.oneCell']) (by omega) (by unfold maxLen; omega) (by omega) (by simp; omega) _ rfl ?_; intro gg cap' w5 hown5 hgrow hat5 hlt5)
                have hb6 : Below w.heap.size w w5 := (((hb.trans (hb5.mono hz)).alloc (by have := hz5.out; omega) (.cells #[.int .i64 x.kind, .string (M3.few x.name), .slice a4 _ cap4, .string (M3.few x.text), .slice a3 ks'.length cap3] 28))).grown hgrow (by simp; have := hz5.out; omega) (fun g hg => (hown.out.lt g hg).1)
                have hmade : Made w5 w.heap.size (.slice (some ⟨gg, 0, none⟩) (A.length + 1) cap') (A ++ [.mk x.kind (M3.few x.name) ats' (M3.few x.text) ks']) := by
                  refine Made.snoc (u := u6) (va := .slice a4 _ cap4) (vk := .slice a3 ks'.length cap3) (SA := fun b => w.heap.size ≤ b ∧ b < wo.heap.size ∧ u6.ownBlock ≠ some b) (SX := fun b => W1.heap.size ≤ b ∧ b < wr.heap.size) rfl hown5 hgrow ?_ ?_ ?_ ?_ ?_
                  · rcases hat5 with h | h
                    · exact Or.inl h
                    · exact Or.inr (by rw [h]; exact Nat.le_refl _)
                  · exact RepC.keep (fun b h => Below.heap_alloc _ _ _ (by have := hz5.out; have := h.2.1; omega)) _ _ hrepA2.out
                  · exact fun b h => ⟨h.1, by simp; have := hz5.out; have := h.2.1; omega, h.2.2⟩
                  · refine RepV.keep (w := wr.setCell ⟨wo.heap.size, 2, none⟩ (.slice a4 _ cap4)) ⟨?_, zs2, ?_, ?_⟩ (fun b h => Below.heap_alloc _ _ _ (by have := hz5.out; have := h.2; omega))
                    · have h1 := Row.own hatN.out (S := fun b => W1.heap.size ≤ b ∧ b < wr.heap.size) (fun g hg => by have := hatN.out.lt g hg; have := hz5.out; omega)
                      simpa only [Nd.attrs, hlk.out] using h1
                    · exact Row.own hownK.out (fun g hg => by have h1 := hownK.out.lt g hg; have h2 := hz5.out; have h3 := hownK3.out g hg; omega)
                    · exact RepC.mono (fun b h => ⟨h.1, by have := h.2.1; omega⟩) _ _ hrepK.out
                  · exact fun b h => ⟨by have := h.1; have := hsz1.out; omega, by simp; have := hz5.out; have := h.2; omega, fun e => by have := (hown.out.lt b e).2; have := h.1; have := hsz1.out; omega⟩
                clear hown5 hgrow hat5
                replace hmade := Lib.hid hmade
                go_roundw
                case rel =>
                  refine ⟨i + 1, m2, A ++ [.mk x.kind (M3.few x.name) ats' (M3.few x.text) ks'], by omega, by go_num, rfl, by simp; omega, hmade.out, hb6, ?_⟩
                  show _ ∧ _
                  rw [hc.1, hc.2]
                  simp
                case measure => simp [intOf]; omega
        · obtain rfl : mi = 0 := by omega
          rw [M3.cut_zero] at hc
          have hc1 := Lib.hid (show (M3.cut l m).1 = A by rw [hc.1]; simp)
          have hc2 := Lib.hid hc.2
          clear hc hmi
          replace hown := Lib.hid hown
          replace hrepA := Lib.hid hrepA
          go_wp2
          go_ret2
          exact ⟨u6, by rw [hc2.out]; rfl, by rw [hc1.out]; exact ⟨zs, hown.out, hrepA.out⟩, hb⟩
      · obtain rfl : i = l.length := by omega
        rw [List.drop_length, M3.cut_nil] at hc
        have hc1 := Lib.hid (show (M3.cut l m).1 = A by rw [hc.1]; simp)
        have hc2 := Lib.hid hc.2
        clear hc
        replace hown := Lib.hid hown
        replace hrepA := Lib.hid hrepA
        go_wp2
        go_ret2
        exact ⟨u6, by rw [hc2.out]; rfl, by rw [hc1.out]; exact ⟨zs, hown.out, hrepA.out⟩, hb⟩

def fewN (l : List Nd) : List Nd := (M3.cut l 40).1
def MadePost (l : List Nd) (w : World) (e : Ending) (w' : World) : Prop := ∃ v', e = .returned v' ∧ Made w' w.heap.size v' l ∧ Below w.heap.size w w'
set_option maxHeartbeats 1000000 in
theorem ref03Few (S : Nat → Prop) (v : Value) (l : List Nd) (w : World) (hS : ∀ b, S b → b < w.heap.size) (hr : RepN S w v l) (hsz : SzN l) :
    Calls Try.prog 13 #[v] w (MadePost (fewN l) w) := by
  have h := Lib.hid (fun W h1 h2 => ref03Cut 40 S v l W h1 h2 hsz (by omega))
  obtain ⟨a, cap, rfl⟩ := hr.slice
  go_enter Try.func13, Try.ntmps13
  go_wp2_with (fail)
  refine (h.out w hS hr).mono ?_
  rintro e w1 ⟨v1, rfl, hm1, hb1⟩
  replace hm1 := Lib.hid hm1
  go_wp2
  go_ret
  exact ⟨v1, rfl, hm1.out, hb1⟩
end Go.Proofs.Ytjelmpajphajfaa

/- What came in: nodes, as deep as they are, read as nodes. -/
namespace Go.Proofs.Ytjelmpajphajfaa
open Go.RowKit Go.ChangeShapes Go.WideShapes

theorem exists_list {α : Type} {p : Nat → α → Prop} (n : Nat) (h : ∀ i, i < n → ∃ a, p i a) : ∃ l : List α, l.length = n ∧ ∀ i (hi : i < l.length), p i l[i] := by
  induction n with
  | zero => exact ⟨[], rfl, fun i hi => by simp at hi⟩
  | succ n ih =>
    obtain ⟨l, hl, hp⟩ := ih (fun i hi => h i (by omega))
    obtain ⟨a, ha⟩ := h n (by omega)
    refine ⟨l ++ [a], by simp [hl], fun i hi => ?_⟩
    rw [List.length_append, List.length_cons, List.length_nil] at hi
    by_cases hin : i < l.length
    · rw [List.getElem_append_left hin]; exact hp i hin
    · rw [List.getElem_append_right (by omega)]
      simp only [List.getElem_singleton]
      rw [show i = n by omega]; exact ha
theorem flat_get {α : Type} (f : α → List Value) (k : Nat) (hf : ∀ x, (f x).length = k) (_ : 0 < k) : ∀ (L : List α) (j : Nat) (u : Value), (L.flatMap f)[j]? = some u → ∃ (i r : Nat) (h : i < L.length), j = i * k + r ∧ r < k ∧ (f L[i])[r]? = some u := by
  intro L
  induction L with
  | nil => intro j u h; simp at h
  | cons x r ih =>
    intro j u h
    rw [List.flatMap_cons] at h
    by_cases hj : j < k
    · rw [List.getElem?_append_left (by rw [hf]; exact hj)] at h
      exact ⟨0, j, by simp, by simp, hj, h⟩
    · rw [List.getElem?_append_right (by rw [hf]; omega), hf] at h
      obtain ⟨i, q, hi, h1, h2, h3⟩ := ih _ _ h
      refine ⟨i + 1, q, by simpa using hi, ?_, h2, by simpa using h3⟩
      rw [Nat.add_mul]; omega
theorem flat_len {α : Type} (f : α → List Value) (k : Nat) (hf : ∀ x, (f x).length = k) (L : List α) : (L.flatMap f).length = L.length * k := by
  induction L with
  | nil => simp
  | cons x r ih => rw [List.flatMap_cons, List.length_append, ih, hf, List.length_cons, Nat.add_mul]; omega
theorem cells_cell {w : World} {base : Nat} {a : Addr} {n : Nat} {cs : List Value} (h : w.cells? base a n = some cs) (hn : 0 < n) : ∃ b off, a = ⟨b, off, none⟩ ∧ b < w.heap.size ∧ ∀ i u, cs[i]? = some u → w.cell? ⟨b, off + i, none⟩ = some u := by
  obtain ⟨_, hl, hc⟩ := World.cells?_some h
  have h0 := hc 0 hn
  rw [List.getElem?_eq_getElem (by omega)] at h0
  obtain ⟨b, off, spot⟩ := a
  have hspot : spot = none := by simpa [Addr.add] using World.cell?_spot h0
  subst hspot
  refine ⟨b, off, rfl, ?_, fun i u hu => ?_⟩
  · have := World.block_lt_of_cell? w _ h0
    rwa [add_plain'] at this
  · have h1 := hc i (by have := (List.getElem?_eq_some_iff.1 hu).1; omega)
    rw [add_plain'] at h1
    rw [h1, hu]

section
variable {H : Type} {enc : TypeId × Value → H} {w : World} {base : Nat} {spare : Nat → Bool} {held : Bool}

/-- A slice of elements of k cells: what each element's cells are known to be. -/
theorem open_rows {t e : TypeId} {k fuel : Nat} {cs : List Value} {x : DataW H × List MemPlace} (ht : Try.prog.underlying t = some (.slice e)) (hC : Try.prog.cellsOf e = k) (hk : 0 < k) (h : DataW.trod enc Try.prog w base spare held fuel t cs = some x)
    {α : Type} (f : α → List Value) (hf : ∀ x, (f x).length = k) (q : α → Prop) (hq : ∀ n cs' y, n < fuel → cs'.length = k → DataW.trod enc Try.prog w base spare held n e cs' = some y → ∃ b : α, cs' = f b ∧ q b) :
    ∃ (v : Value) (L : List α), cs = [v] ∧ Row (fun b => b < w.heap.size) w k v L.length (L.flatMap f) ∧ ∀ b ∈ L, q b := by
  rcases DataW.trod_slice ht h with ⟨rfl, _⟩ | ⟨a, len, cap, elems, rest, n, hn, rfl, _, _, hl, hm, hlen, hel, _, _⟩
  · exact ⟨_, [], rfl, Row.nil _ _ _, fun b hb => by cases hb⟩
  · have key : ∀ i, i < len → ∃ b : α, q b ∧ w.cells? base (a.add (i * k)) k = some (f b) := by
      intro i hi
      have h1 := hel i hi
      rw [List.getElem?_eq_getElem (by omega), hC] at h1
      obtain ⟨cs', h2, h3⟩ := Option.bind_eq_some_iff.1 h1
      obtain ⟨b, rfl, hb⟩ := hq n cs' _ (by omega) (by have := (World.cells?_some h2).2.1; exact this) h3
      exact ⟨b, hb, h2⟩
    obtain ⟨L, hL, hp⟩ := exists_list len key
    unfold maxLen at hm
    refine ⟨_, L, rfl, ⟨flat_len f k hf L, some a, cap, by rw [hL], by omega, by omega, (fun h => by cases h), fun hpos => ?_⟩, fun b hb => ?_⟩
    · have h0 := (hp 0 hpos).2
      rw [Nat.zero_mul] at h0
      have ha0 : a.add 0 = a := by unfold Addr.add; simp
      rw [ha0] at h0
      obtain ⟨b, off, rfl, hbl, _⟩ := cells_cell h0 hk
      refine ⟨b, off, rfl, hbl, fun j u hu => ?_⟩
      obtain ⟨i, r, hi, rfl, hr, h3⟩ := flat_get f k hf hk L j u hu
      have h4 := (hp i hi).2
      rw [add_plain'] at h4
      obtain ⟨b', off', h5, _, h6⟩ := cells_cell h4 hk
      cases h5
      rw [← Nat.add_assoc]
      exact h6 r u h3
    · obtain ⟨i, hi, rfl⟩ := List.mem_iff_getElem.1 hb
      exact (hp i hi).1

theorem cell1 (t : TypeId) (h : t = 9 ∨ t = 3 ∨ t = 26 ∨ t = 22) : Try.prog.cellsOf t = 1 := by
  rcases h with rfl | rfl | rfl | rfl <;> kernel_rfl
theorem open_att {n : Nat} {cs : List Value} {y : DataW H × List MemPlace} (hl : cs.length = 2) (h : DataW.trod enc Try.prog w base spare held n 44 cs = some y) :
    ∃ b : Att, cs = [.string b.name, .string b.value] ∧ b.name.size ≤ 9223372036854775807 ∧ b.value.size ≤ 9223372036854775807 := by
  match cs, hl with
  | [c0, c1], _ =>
    obtain ⟨xs, m, _, _, _, hxs, hf⟩ := DataW.trod_struct Try.underlying44 h
    have h0 := hf 0 _ rfl
    have h1 := hf 1 _ rfl
    change DataW.trod enc Try.prog w base spare held m 9 ((([c0, c1] : List Value).drop 0).take (Try.prog.cellsOf 9)) = xs[0]? at h0
    change DataW.trod enc Try.prog w base spare held m 9 ((([c0, c1] : List Value).drop 1).take (Try.prog.cellsOf 9)) = xs[1]? at h1
    rw [cell1 9 (Or.inl rfl)] at h0 h1
    simp only [List.drop_zero, List.take_succ_cons, List.take_zero, List.drop_succ_cons] at h0 h1
    rw [List.getElem?_eq_getElem (by rw [hxs]; decide)] at h0
    rw [List.getElem?_eq_getElem (by rw [hxs]; decide)] at h1
    obtain ⟨s0, e0, _, z0⟩ := DataW.trod_string Try.underlying9 h0
    obtain ⟨s1, e1, _, z1⟩ := DataW.trod_string Try.underlying9 h1
    unfold maxLen at z0 z1
    simp only [List.cons.injEq, and_true] at e0 e1
    exact ⟨⟨s0, s1⟩, by rw [e0, e1], by show s0.size ≤ _; omega, by show s1.size ≤ _; omega⟩
theorem open_attrs {fuel : Nat} {cs : List Value} {x : DataW H × List MemPlace} (h : DataW.trod enc Try.prog w base spare held fuel 26 cs = some x) :
    ∃ (v : Value) (L : List Att), cs = [v] ∧ Row (fun b => b < w.heap.size) w 2 v L.length (cellsA L) ∧ ∀ b ∈ L, b.name.size ≤ 9223372036854775807 ∧ b.value.size ≤ 9223372036854775807 :=
  open_rows Try.underlying26 (by kernel_rfl) (by decide) h (fun a : Att => [.string a.name, .string a.value]) (fun _ => rfl) (fun b : Att => b.name.size ≤ 9223372036854775807 ∧ b.value.size ≤ 9223372036854775807) (fun n cs' y _ hl h => open_att hl h)

/-- A node by its cells. -/
structure NV where
  x : Nd
  va : Value
  vk : Value
theorem open_node {n : Nat} {cs : List Value} {y : DataW H × List MemPlace} (hl : cs.length = 5) (h : DataW.trod enc Try.prog w base spare held n 28 cs = some y)
    (ih : ∀ m cs' x, m < n → DataW.trod enc Try.prog w base spare held m 22 cs' = some x → ∃ (v : Value) (l : List Nd), cs' = [v] ∧ RepN (fun b => b < w.heap.size) w v l ∧ SzN l) :
    ∃ b : NV, cs = b.x.cells b.va b.vk ∧ RepV (fun b => b < w.heap.size) w b.x b.va b.vk ∧ Sz1 b.x ∧ SzN b.x.kids := by
  match cs, hl with
  | [c0, c1, c2, c3, c4], _ =>
    obtain ⟨xs, m, hm, _, _, hxs, hf⟩ := DataW.trod_struct Try.underlying28 h
    have h0 := hf 0 _ rfl
    have h1 := hf 1 _ rfl
    have h2 := hf 2 _ rfl
    have h3 := hf 3 _ rfl
    have h4 := hf 4 _ rfl
    change DataW.trod enc Try.prog w base spare held m 3 ((([c0, c1, c2, c3, c4] : List Value).drop 0).take (Try.prog.cellsOf 3)) = xs[0]? at h0
    change DataW.trod enc Try.prog w base spare held m 9 ((([c0, c1, c2, c3, c4] : List Value).drop 1).take (Try.prog.cellsOf 9)) = xs[1]? at h1
    change DataW.trod enc Try.prog w base spare held m 26 ((([c0, c1, c2, c3, c4] : List Value).drop 2).take (Try.prog.cellsOf 26)) = xs[2]? at h2
    change DataW.trod enc Try.prog w base spare held m 9 ((([c0, c1, c2, c3, c4] : List Value).drop 3).take (Try.prog.cellsOf 9)) = xs[3]? at h3
    change DataW.trod enc Try.prog w base spare held m 22 ((([c0, c1, c2, c3, c4] : List Value).drop 4).take (Try.prog.cellsOf 22)) = xs[4]? at h4
    rw [cell1 3 (Or.inr (Or.inl rfl))] at h0
    rw [cell1 9 (Or.inl rfl)] at h1 h3
    rw [cell1 26 (Or.inr (Or.inr (Or.inl rfl)))] at h2
    rw [cell1 22 (Or.inr (Or.inr (Or.inr rfl)))] at h4
    simp only [List.drop_zero, List.take_succ_cons, List.take_zero, List.drop_succ_cons] at h0 h1 h2 h3 h4
    rw [List.getElem?_eq_getElem (by rw [hxs]; decide)] at h0
    rw [List.getElem?_eq_getElem (by rw [hxs]; decide)] at h1
    rw [List.getElem?_eq_getElem (by rw [hxs]; decide)] at h2
    rw [List.getElem?_eq_getElem (by rw [hxs]; decide)] at h3
    rw [List.getElem?_eq_getElem (by rw [hxs]; decide)] at h4
    obtain ⟨k, e0, _, _⟩ := DataW.trod_int Try.underlying3 h0
    obtain ⟨s1, e1, _, z1⟩ := DataW.trod_string Try.underlying9 h1
    obtain ⟨va, L, e2, r2, z2⟩ := open_attrs h2
    obtain ⟨s3, e3, _, z3⟩ := DataW.trod_string Try.underlying9 h3
    obtain ⟨vk, l, e4, r4, z4⟩ := ih m _ _ (by omega) h4
    unfold maxLen at z1 z3
    simp only [List.cons.injEq, and_true] at e0 e1 e2 e3 e4
    exact ⟨⟨.mk k s1 L s3 l, va, vk⟩, by rw [e0, e1, e2, e3, e4]; rfl, ⟨r2, r4⟩, ⟨by show s1.size ≤ _; omega, by show s3.size ≤ _; omega, z2⟩, z4⟩
theorem open_nodes (fuel : Nat) : ∀ (cs : List Value) (x : DataW H × List MemPlace), DataW.trod enc Try.prog w base spare held fuel 22 cs = some x →
    ∃ (v : Value) (l : List Nd), cs = [v] ∧ RepN (fun b => b < w.heap.size) w v l ∧ SzN l := by
  induction fuel using Nat.strongRecOn with
  | ind fuel ih =>
    intro cs x h
    obtain ⟨v, L, hv, hr, hq⟩ := open_rows Try.underlying22 (by kernel_rfl) (by decide) h (fun b : NV => b.x.cells b.va b.vk) (fun _ => rfl) (fun b => RepV (fun b => b < w.heap.size) w b.x b.va b.vk ∧ Sz1 b.x ∧ SzN b.x.kids)
      (fun n cs' y hn hl h => open_node hl h (fun m cs'' x hm h => ih m (by omega) cs'' x h))
    refine ⟨v, L.map NV.x, hv, ⟨_, by simpa using hr, ?_⟩, ?_⟩
    · clear hr hv h ih
      induction L with
      | nil => exact RepC.nil _ _
      | cons b r ih =>
        rw [List.flatMap_cons, List.map_cons]
        exact RepC.append (m := r.map NV.x) (ih (fun c hc => hq c (by simp [hc]))) [b.x] _ (RepC.single (hq b (by simp)).1)
    · clear hr hv h ih
      induction L with
      | nil => show SzN []; rw [SzN]; trivial
      | cons b r ih =>
        rw [List.map_cons]
        exact szN_cons.2 ⟨(hq b (by simp)).2.1, (hq b (by simp)).2.2, ih (fun c hc => hq c (by simp [hc]))⟩
end
end Go.Proofs.Ytjelmpajphajfaa

/- Package dom: clones. -/
namespace Go.Proofs.Ytjelmpajphajfaa
open Go.RowKit

/-- Nodes that a call has made, each row a block of its own, and F the blocks: none stands twice. -/
def OwnC (w : World) : List Value → List Nd → List Nat → Prop
  | xs, [], F => xs = [] ∧ F = []
  | xs, .mk k n ats t ks :: r, F => ∃ va vk zs ys F1 F2, xs = .int .i64 k :: .string n :: va :: .string t :: vk :: ys ∧ w.ownsRow 0 44 2 va ats.length (cellsA ats) ∧ w.ownsRow 0 28 5 vk ks.length zs ∧
      F = (va.ownBlock.toList ++ (vk.ownBlock.toList ++ F1)) ++ F2 ∧ OwnC w zs ks F1 ∧ OwnC w ys r F2
termination_by _ l _ => SizeOf.sizeOf l
theorem OwnC.cons_iff {w : World} {xs : List Value} {x : Nd} {r : List Nd} {F : List Nat} :
    OwnC w xs (x :: r) F ↔ ∃ va vk zs ys F1 F2, xs = x.cells va vk ++ ys ∧ w.ownsRow 0 44 2 va x.attrs.length (cellsA x.attrs) ∧ w.ownsRow 0 28 5 vk x.kids.length zs ∧
      F = (va.ownBlock.toList ++ (vk.ownBlock.toList ++ F1)) ++ F2 ∧ OwnC w zs x.kids F1 ∧ OwnC w ys r F2 := by cases x; rw [OwnC]; rfl
theorem OwnC.nil (w : World) : OwnC w [] [] [] := by rw [OwnC]; exact ⟨rfl, rfl⟩
theorem OwnC.keep {w w' : World} (l : List Nd) : ∀ (xs : List Value) (F : List Nat), (∀ b ∈ F, w'.heap[b]? = w.heap[b]?) → OwnC w xs l F → OwnC w' xs l F := by
  induction l using Nd.ind with
  | h0 => intro xs F _ h; rw [OwnC] at h ⊢; exact h
  | h1 k n ats t ks r ih1 ih2 =>
    intro xs F hk h
    obtain ⟨va, vk, zs, ys, F1, F2, h1, h2, h3, rfl, h5, h6⟩ := OwnC.cons_iff.1 h
    refine OwnC.cons_iff.2 ⟨va, vk, zs, ys, F1, F2, h1, own_keep h2 (fun g hg => hk g (by simp [hg])), own_keep h3 (fun g hg => hk g (by simp [hg])), rfl, ih1 _ _ (fun b hb => hk b (by simp [hb])) h5, ih2 _ _ (fun b hb => hk b (by simp [hb])) h6⟩
theorem OwnC.append {w : World} {m : List Nd} {ys : List Value} {G : List Nat} (h : OwnC w ys m G) (l : List Nd) : ∀ (xs : List Value) (F : List Nat), OwnC w xs l F → OwnC w (xs ++ ys) (l ++ m) (F ++ G) := by
  induction l using Nd.ind with
  | h0 => intro xs F h'; rw [OwnC] at h'; obtain ⟨rfl, rfl⟩ := h'; exact h
  | h1 k n ats t ks r _ ih2 =>
    intro xs F h'
    obtain ⟨va, vk, zs, ys', F1, F2, rfl, h2, h3, rfl, h5, h6⟩ := OwnC.cons_iff.1 h'
    exact OwnC.cons_iff.2 ⟨va, vk, zs, ys' ++ ys, F1, F2 ++ G, by rw [List.append_assoc], h2, h3, by simp, h5, ih2 _ _ h6⟩
theorem OwnC.len {w : World} (l : List Nd) : ∀ (xs : List Value) (F : List Nat), OwnC w xs l F → xs.length = l.length * 5 := by
  induction l using Nd.ind with
  | h0 => intro xs F h; rw [OwnC] at h; rw [h.1]; rfl
  | h1 k n ats t ks r _ ih2 =>
    intro xs F h
    obtain ⟨va, vk, zs, ys, F1, F2, rfl, h2, h3, rfl, h5, h6⟩ := OwnC.cons_iff.1 h
    have := ih2 _ _ h6
    simp
    omega
theorem OwnC.rep {w : World} (l : List Nd) : ∀ (xs : List Value) (F : List Nat), OwnC w xs l F → RepC (· ∈ F) w xs l := by
  induction l using Nd.ind with
  | h0 => intro xs F h; rw [OwnC] at h; rw [RepC]; exact h.1
  | h1 k n ats t ks r ih1 ih2 =>
    intro xs F h
    obtain ⟨va, vk, zs, ys, F1, F2, rfl, h2, h3, rfl, h5, h6⟩ := OwnC.cons_iff.1 h
    refine RepC.cons_iff.2 ⟨va, vk, ys, rfl, Row.own h2 (fun g hg => by simp [hg]), ⟨zs, Row.own h3 (fun g hg => by simp [hg]), RepC.mono (fun b hb => by simp [hb]) _ _ (ih1 _ _ h5)⟩, RepC.mono (fun b hb => by simp [hb]) _ _ (ih2 _ _ h6)⟩
/-- Blocks between two numbers, none twice. -/
def Span (lo hi : Nat) (F : List Nat) : Prop := F.Nodup ∧ ∀ b ∈ F, lo ≤ b ∧ b < hi
theorem Span.nil (lo hi : Nat) : Span lo hi [] := ⟨List.nodup_nil, fun b h => by cases h⟩
theorem Span.append {lo mid hi : Nat} {F G : List Nat} (hF : Span lo mid F) (hG : Span mid hi G) (h1 : lo ≤ mid) (h2 : mid ≤ hi) : Span lo hi (F ++ G) := by
  refine ⟨List.nodup_append.2 ⟨hF.1, hG.1, fun a ha b hb e => by have h3 := (hF.2 a ha).2; have h4 := (hG.2 b hb).1; omega⟩, fun b hb => ?_⟩
  rcases List.mem_append.1 hb with hb | hb
  · have := hF.2 b hb; omega
  · have := hG.2 b hb; omega
theorem Span.mono {lo lo' hi hi' : Nat} {F : List Nat} (hF : Span lo hi F) (h1 : lo' ≤ lo) (h2 : hi ≤ hi') : Span lo' hi' F := ⟨hF.1, fun b hb => by have := hF.2 b hb; omega⟩
theorem Span.own {w : World} {B : Nat} {e : TypeId} {k n : Nat} {v : Value} {xs : List Value} (h : w.ownsRow B e k v n xs) : Span B w.heap.size v.ownBlock.toList := by
  refine ⟨by cases v.ownBlock <;> simp, fun b hb => ?_⟩
  have : v.ownBlock = some b := by cases hv : v.ownBlock <;> simp [hv] at hb ⊢; exact hb.symm
  exact h.lt b this

/-- What a call has made and hands back, with all that stands in it, nothing shared. -/
def Fresh (w' : World) (B : Nat) (v : Value) (l : List Nd) : Prop := ∃ zs F, w'.ownsRow B 28 5 v l.length zs ∧ OwnC w' zs l F ∧ Span B w'.heap.size (v.ownBlock.toList ++ F)
theorem Fresh.rep {w' : World} {B : Nat} {v : Value} {l : List Nd} (h : Fresh w' B v l) : RepN (fun b => B ≤ b ∧ b < w'.heap.size) w' v l := by
  obtain ⟨zs, F, h1, h2, h3⟩ := h
  exact ⟨zs, Row.own h1 (fun g hg => h1.lt g hg), RepC.mono (fun b hb => h3.2 b (by simp [hb])) _ _ (OwnC.rep _ _ _ h2)⟩
def FreshPost (l : List Nd) (w : World) (e : Ending) (w' : World) : Prop := ∃ v', e = .returned v' ∧ Fresh w' w.heap.size v' l ∧ Below w.heap.size w w'
/-- A node by value, its rows its own. -/
def FreshV (x : Nd) (w : World) (e : Ending) (w' : World) : Prop := ∃ va vk zs F, e = .returned (x.val va vk) ∧ w'.ownsRow w.heap.size 44 2 va x.attrs.length (cellsA x.attrs) ∧ w'.ownsRow w.heap.size 28 5 vk x.kids.length zs ∧ OwnC w' zs x.kids F ∧ Span w.heap.size w'.heap.size (va.ownBlock.toList ++ (vk.ownBlock.toList ++ F)) ∧ Below w.heap.size w w'
end Go.Proofs.Ytjelmpajphajfaa

/- Package dom: clones, walked. -/
namespace Go.Proofs.Ytjelmpajphajfaa
open Go.RowKit

/-- 'append(s, y...)' onto a row that the call owns, elements of k cells; y reads as ys. -/
theorem wpList_appRow {P : Program} {ops : Array Oper} {rest : List Oper} {o : Oper} {a : Act} {Q : Exit → Act → World → Prop} (w1 : World) (hgd : o.guard = none) (s y : Operand) (t e : TypeId)
    (ho : o.op = .call { callee := .builtin .append, args := #[s, y], argTypes := #[t, t] }) (base k : Nat) {z : Value} {bytes : Nat} (ht : P.underlying t = some (.slice e))
    (hinfo : (P.info? e).map (fun i => (i.zero, i.size, i.bytes)) = some (some z, k, bytes)) (hz : z.cells.size = k) (hk : 0 < k)
    (v : Value) (n : Nat) (xs : List Value) (hs : a.eval s = v) (hown : w1.ownsRow base e k v n xs) (S : Nat → Prop) (yv : Value) (m : Nat) (ys : List Value) (hy : a.eval y = yv) (hx : Row S w1 k yv m ys) (h1 : ∀ u ∈ ys, u.oneCell' = true)
    (h63 : n + m ≤ 9223372036854775807) (hbytes : (n + m) * bytes ≤ 140737488355328) (hbase : base ≤ w1.heap.size)
    (h : ∀ v' w2, w2.ownsRow base e k v' (n + m) (xs ++ ys) → w1.grownBy w2 v.ownBlock → wpList P ops Q rest (a.put o.dst v') w2) : wpList P ops Q (o :: rest) a w1 := by
  obtain ⟨i, hi, hz0, hz1, hz2⟩ := info_parts hinfo
  obtain ⟨h0, ad, cap, rfl, h2, h3, h4, h5⟩ := hx
  cases ad with
  | none =>
    have h6 := h4 rfl
    obtain rfl : m = 0 := by omega
    obtain rfl : ys = [] := List.eq_nil_of_length_eq_zero (by simpa using h0)
    subst h6
    refine wpList_append_own_none hgd s y t ho base e i k ht hi v n xs hs hown hy ?_
    exact h v w1 (by simpa using hown) ⟨rfl, rfl, rfl, Nat.le_refl _, fun _ _ _ => rfl⟩
  | some ad =>
    refine wpList_append_own _ hgd s y t ho base e i z k bytes ht hi hz0 hz1 hz2 hz hk v n xs hs hown ad m cap ys hy h0 ?_ h1 (by unfold maxLen; omega) hbytes hbase ?_
    · intro j u hj
      have hm : 0 < m := by
        rcases Nat.eq_zero_or_pos m with h | h
        · subst h
          rw [Nat.zero_mul] at h0
          rw [List.eq_nil_of_length_eq_zero h0] at hj
          simp at hj
        · exact h
      obtain ⟨b, off, h6, _, h7⟩ := h5 hm
      cases h6
      rw [add_plain']
      exact h7 j u hj
    · intro v' w2 h8 h9 _
      exact h v' w2 h8 h9

theorem below_none {W w1 : World} {v : Value} (h : W.grownBy w1 v.ownBlock) (hv : v.ownBlock = none := by rfl) : Below W.heap.size W w1 := by
  rw [hv] at h
  exact ⟨h.os, h.tape, h.output, h.size, fun k hk => h.block k hk (by simp)⟩

set_option maxHeartbeats 2000000 in
set_option maxRecDepth 100000 in
theorem domClone1 (S : Nat → Prop) (x : Nd) (va vk : Value) (w : World) (hS : ∀ b, S b → b < w.heap.size) (hx : RepV S w x va vk) (hw : x.attrs.length ≤ 1000000)
    (ih : ∀ W : World, (∀ b, S b → b < W.heap.size) → RepN S W vk x.kids → Calls Try.prog 19 #[vk] W (FreshPost x.kids W)) :
    Calls Try.prog 49 #[x.val va vk] w (FreshV x w) := by
  obtain ⟨hat, hkd⟩ := hx
  obtain ⟨a1, cap1, rfl⟩ := hat.slice
  obtain ⟨a2, cap2, rfl⟩ := hkd.slice
  replace ih := Lib.hid ih
  go_enter Try.func49, Try.ntmps49
  have b0 := (Box.new w 28 (x.cells (.slice a1 x.attrs.length cap1) (.slice a2 x.kids.length cap2))).alloc (.cells #[.int .i64 0, .string ⟨#[]⟩, .slice none 0 0, .string ⟨#[]⟩, .slice none 0 0] 28)
  have b1 := Box.new (w.alloc (.cells (x.cells (.slice a1 x.attrs.length cap1) (.slice a2 x.kids.length cap2)).toArray 28)) 28 [.int .i64 0, .string ⟨#[]⟩, .slice none 0 0, .string ⟨#[]⟩, .slice none 0 0]
  have hB0 : Below w.heap.size w ((w.alloc (.cells (x.cells (.slice a1 x.attrs.length cap1) (.slice a2 x.kids.length cap2)).toArray 28)).alloc (.cells #[.int .i64 0, .string ⟨#[]⟩, .slice none 0 0, .string ⟨#[]⟩, .slice none 0 0] 28)) := ((Below.refl _ w).alloc (Nat.le_refl _) _).alloc (by simp) _
  have hs0 : ((w.alloc (.cells (x.cells (.slice a1 x.attrs.length cap1) (.slice a2 x.kids.length cap2)).toArray 28)).alloc (.cells #[.int .i64 0, .string ⟨#[]⟩, .slice none 0 0, .string ⟨#[]⟩, .slice none 0 0] 28)).heap.size = w.heap.size + 2 := by simp
  have hat0 := hat.below hS hB0
  simp only [World.size_alloc] at b1
  go_wp2_with (at_builtin; refine wpList_appRow _ rfl _ _ 26 44 rfl (w.heap.size + 2) 2 Try.underlying26 infoA rfl (by omega) _ 0 [] rfl (World.ownsRow_nil _ _ _ _) S _ x.attrs.length (cellsA x.attrs) rfl hat0 (cellsA_one _) (by omega) (by omega) (by simp) ?_; intro v1 w1 hown1 hgrow1; obtain ⟨a3, cap3, rfl⟩ := own_slice hown1; have hb1 := below_none hgrow1; rw [hs0] at hb1; have b2 := b0.below hb1 (by omega); have b3 := b1.below hb1 (by omega); have c2 := b2.cell (i := 2) rfl; have c4 := b2.cell (i := 4) rfl; have f2 := b2.free 2)
  have b4 := b2.set 2 (.slice a3 x.attrs.length cap3)
  have b5 := b3.far (p := ⟨w.heap.size, 2, none⟩) (by simp) (.slice a3 x.attrs.length cap3)
  have hz1 : (w1.setCell ⟨w.heap.size, 2, none⟩ (.slice a3 x.attrs.length cap3)).heap.size = w1.heap.size := by simp [World.setCell]
  have hB1 : Below w.heap.size w (w1.setCell ⟨w.heap.size, 2, none⟩ (.slice a3 x.attrs.length cap3)) := (hB0.trans (hb1.mono (by omega))).setCell (p := ⟨w.heap.size, 2, none⟩) (Nat.le_refl _) _
  have hown2 := own_keep hown1 (w' := w1.setCell ⟨w.heap.size, 2, none⟩ (.slice a3 x.attrs.length cap3)) (fun g hg => Below.heap_setCell _ _ _ _ (by have := (hown1.lt g hg).1; simp; omega))
  have hsz1 := hb1.size
  simp only [List.nil_append, Nat.zero_add] at hown2
  simp only [List.set_cons_succ, List.set_cons_zero] at b4
  obtain ⟨W1, hW1⟩ : ∃ W1, w1.setCell ⟨w.heap.size, 2, none⟩ (.slice a3 x.attrs.length cap3) = W1 := ⟨_, rfl⟩
  rw [hW1] at b4 b5 hz1 hB1 hown2 ⊢
  clear hW1 b0 b1 b2 b3 c2 c4 f2 hown1 hgrow1 hat0
  refine (ih.out W1 (fun b h => by have := hS b h; have := hB1.size; omega) (hkd.below hS hB1)).mono ?_
  rintro e w2 ⟨v2, rfl, ⟨zs, F, hown3, hown4, hspan⟩, hb2⟩
  obtain ⟨a4, cap4, rfl⟩ := own_slice hown3
  have hz2 := hb2.size
  have d0 := b4.below hb2 b4.lt
  have e0 := b5.below hb2 b5.lt
  have q0 := d0.cell (i := 0) rfl
  have q1 := d0.cell (i := 1) rfl
  have q2 := d0.cell (i := 2) rfl
  have q3 := d0.cell (i := 3) rfl
  have q4 := d0.cell (i := 4) rfl
  have p4 := d0.free 4
  have r0 := e0.cell (i := 0) rfl
  have r1 := e0.cell (i := 1) rfl
  have r2 := e0.cell (i := 2) rfl
  have r3 := e0.cell (i := 3) rfl
  have r4 := e0.cell (i := 4) rfl
  have s0 := e0.free 0
  have s1 := e0.free 1
  have s2 := e0.free 2
  have s3 := e0.free 3
  have s4 := e0.free 4
  replace hown3 := Lib.hid hown3
  replace hown4 := Lib.hid hown4
  replace hspan := Lib.hid hspan
  replace hown2 := Lib.hid hown2
  clear ih
  go_wp2
  have hfar : ∀ b, w.heap.size + 2 ≤ b → ((((((w2.setCell ⟨w.heap.size, 4, none⟩ (.slice a4 x.kids.length cap4)).setCell ⟨w.heap.size + 1, 0, none⟩ (.int .i64 x.kind)).setCell ⟨w.heap.size + 1, 1, none⟩ (.string x.name)).setCell ⟨w.heap.size + 1, 2, none⟩ (.slice a3 x.attrs.length cap3)).setCell ⟨w.heap.size + 1, 3, none⟩ (.string x.text)).setCell ⟨w.heap.size + 1, 4, none⟩ (.slice a4 x.kids.length cap4)).heap[b]? = w2.heap[b]? := by
    intro b h
    rw [Below.heap_setCell _ _ _ _ (by simp; omega), Below.heap_setCell _ _ _ _ (by simp; omega), Below.heap_setCell _ _ _ _ (by simp; omega), Below.heap_setCell _ _ _ _ (by simp; omega), Below.heap_setCell _ _ _ _ (by simp; omega), Below.heap_setCell _ _ _ _ (by simp; omega)]
  have hB2 : Below w.heap.size w w2 := hB1.trans (hb2.mono (by have := hB1.size; omega))
  have hB3 := (((((hB2.setCell (p := ⟨w.heap.size, 4, none⟩) (Nat.le_refl _) (.slice a4 x.kids.length cap4)).setCell (p := ⟨w.heap.size + 1, 0, none⟩) (by simp) (.int .i64 x.kind)).setCell (p := ⟨w.heap.size + 1, 1, none⟩) (by simp) (.string x.name)).setCell (p := ⟨w.heap.size + 1, 2, none⟩) (by simp) (.slice a3 x.attrs.length cap3)).setCell (p := ⟨w.heap.size + 1, 3, none⟩) (by simp) (.string x.text)).setCell (p := ⟨w.heap.size + 1, 4, none⟩) (by simp) (.slice a4 x.kids.length cap4)
  have hz5 : ((((((w2.setCell ⟨w.heap.size, 4, none⟩ (.slice a4 x.kids.length cap4)).setCell ⟨w.heap.size + 1, 0, none⟩ (.int .i64 x.kind)).setCell ⟨w.heap.size + 1, 1, none⟩ (.string x.name)).setCell ⟨w.heap.size + 1, 2, none⟩ (.slice a3 x.attrs.length cap3)).setCell ⟨w.heap.size + 1, 3, none⟩ (.string x.text)).setCell ⟨w.heap.size + 1, 4, none⟩ (.slice a4 x.kids.length cap4)).heap.size = w2.heap.size := by simp [World.setCell]
  have e1 := (((((e0.far (p := ⟨w.heap.size, 4, none⟩) (by simp) (.slice a4 x.kids.length cap4)).set 0 (.int .i64 x.kind)).set 1 (.string x.name)).set 2 (.slice a3 x.attrs.length cap3)).set 3 (.string x.text)).set 4 (.slice a4 x.kids.length cap4)
  simp only [List.set_cons_succ, List.set_cons_zero] at e1
  obtain ⟨W5, hW5⟩ : ∃ W5, (((((w2.setCell ⟨w.heap.size, 4, none⟩ (.slice a4 x.kids.length cap4)).setCell ⟨w.heap.size + 1, 0, none⟩ (.int .i64 x.kind)).setCell ⟨w.heap.size + 1, 1, none⟩ (.string x.name)).setCell ⟨w.heap.size + 1, 2, none⟩ (.slice a3 x.attrs.length cap3)).setCell ⟨w.heap.size + 1, 3, none⟩ (.string x.text)).setCell ⟨w.heap.size + 1, 4, none⟩ (.slice a4 x.kids.length cap4) = W5 := ⟨_, rfl⟩
  rw [hW5] at hfar hB3 hz5 e1 ⊢
  clear hW5 q0 q1 q2 q3 q4 p4 r0 r1 r2 r3 r4 s0 s1 s2 s3 s4 d0 e0 b4 b5
  have t0 := e1.cell (i := 0) rfl
  have t1 := e1.cell (i := 1) rfl
  have t2 := e1.cell (i := 2) rfl
  have t3 := e1.cell (i := 3) rfl
  have t4 := e1.cell (i := 4) rfl
  have hW1s := hB1.size
  have hw1 : w.heap.size + 2 ≤ W1.heap.size := by rw [hz1]; have := hsz1; simp at this; omega
  refine bodyPost_ret (v := x.val (.slice a3 x.attrs.length cap3) (.slice a4 x.kids.length cap4)) (by simp [results, Try.results49, go_sem, t0, t1, t2, t3, t4]) rfl ?_
  have o2 := own_keep hown2.out (w' := W5) (fun g hg => by
    have h1 := hown2.out.lt g hg
    rw [hfar g h1.1]; exact hb2.block g h1.2)
  have o3 := own_keep hown3.out (w' := W5) (fun g hg => hfar g (by have h1 := hown3.out.lt g hg; omega))
  refine ⟨_, _, zs, F, rfl, own_base o2 (fun g hg => by have := (o2.lt g hg).1; omega), own_base o3 (fun g hg => by have := (o3.lt g hg).1; omega), OwnC.keep _ _ _ (fun b hb => hfar b (by have := hspan.out.2 b (by simp [hb]); omega)) hown4.out, ?_, hB3⟩
  have sp := Span.own hown2.out
  exact Span.mono (Span.append sp (hspan.out) (by omega) (by omega)) (by omega) (by omega)
end Go.Proofs.Ytjelmpajphajfaa

/- Layer 3 by plain definitions: merged two ways, merged twice, and which merged nodes may be; nodes that may be, made of any. No program in it. -/
namespace Go.Proofs.Ytjelmpajphajfaa
namespace M3

theorem cat_data (s t : ByteArray) : (cat s t).data.toList = s.data.toList ++ t.data.toList := by simp [cat]
theorem nilB_data' (s : ByteArray) : nilB s = s.data.toList.isEmpty := by unfold nilB; rw [ByteArray.toList_eq]
theorem nilB_cat (s t : ByteArray) : nilB (cat s t) = (nilB s && nilB t) := by
  rw [nilB_data', nilB_data', nilB_data', cat_data]
  cases s.data.toList <;> cases t.data.toList <;> rfl
theorem cat_assoc (s t u : ByteArray) : cat (cat s t) u = cat s (cat t u) := by simp [cat]
theorem cat_nil (s : ByteArray) : cat s ⟨#[]⟩ = s := by cases s; simp [cat]
theorem withText_self (x : Nd) : withText x x.text = x := by cases x; rfl
theorem withText_kind (x : Nd) (t : ByteArray) : (withText x t).kind = x.kind := by cases x; rfl
theorem withText_text (x : Nd) (t : ByteArray) : (withText x t).text = t := by cases x; rfl
theorem withText_kids (x : Nd) (t : ByteArray) : (withText x t).kids = x.kids := by cases x; rfl
theorem withText_attrs (x : Nd) (t : ByteArray) : (withText x t).attrs = x.attrs := by cases x; rfl
theorem withText_name (x : Nd) (t : ByteArray) : (withText x t).name = x.name := by cases x; rfl
theorem withText_two (x : Nd) (s t : ByteArray) : withText (withText x s) t = withText x t := by cases x; rfl

def isText (x : Nd) : Bool := x.kind == 2
def bareB (x : Nd) : Bool := isText x && nilB x.text
theorem bareB_iff {x : Nd} : bareB x = true ↔ x.kind = 2 ∧ nilB x.text = true := by simp [bareB, isText]
theorem push_bare {out : List Nd} {x : Nd} (h : bareB x = true) : push out x = out := by unfold push; rw [if_pos (bareB_iff.1 h)]
theorem push_none {x : Nd} (h : bareB x = false) : push [] x = [x] := by
  unfold push
  rw [if_neg (by rw [← bareB_iff]; simp [h])]
  rfl
theorem push_snoc {out : List Nd} {x y : Nd} (h : bareB x = false) : push (out ++ [y]) x = if isText x && isText y then out ++ [withText y (cat y.text x.text)] else out ++ [y] ++ [x] := by
  unfold push
  rw [if_neg (by rw [← bareB_iff]; simp [h])]
  simp [isText]
theorem merge_nil : merge [] = [] := rfl
theorem merge_snoc (l : List Nd) (x : Nd) : merge (l ++ [x]) = push (merge l) x := by simp [merge]

/-- One text of the texts that nodes begin with. -/
def joinT : List Nd → ByteArray
  | [] => ⟨#[]⟩
  | x :: r => if isText x then cat x.text (joinT r) else ⟨#[]⟩
def runT (l : List Nd) : Nat := (l.takeWhile isText).length
theorem runT_le (l : List Nd) : runT l ≤ l.length := (List.takeWhile_prefix isText).length_le
theorem joinT_yes {x : Nd} (r : List Nd) (h : isText x = true) : joinT (x :: r) = cat x.text (joinT r) := by rw [joinT, if_pos h]
theorem joinT_no {x : Nd} (r : List Nd) (h : isText x = false) : joinT (x :: r) = ⟨#[]⟩ := by rw [joinT, if_neg (by simp [h])]
theorem runT_yes {x : Nd} (r : List Nd) (h : isText x = true) : runT (x :: r) = runT r + 1 := by simp [runT, h]
theorem runT_no {x : Nd} (r : List Nd) (h : isText x = false) : runT (x :: r) = 0 := by simp [runT, h]

/-- Texts side by side as one, from the front. -/
def front : List Nd → List Nd
  | [] => []
  | x :: r => if isText x then withText x (cat x.text (joinT r)) :: front (r.drop (runT r)) else x :: front r
termination_by l => l.length
decreasing_by
  · simp only [List.length_drop, List.length_cons]; omega
  · simp
theorem front_nil : front [] = [] := by rw [front]
theorem front_yes {x : Nd} (r : List Nd) (h : isText x = true) : front (x :: r) = withText x (joinT (x :: r)) :: front ((x :: r).drop (runT (x :: r))) := by
  rw [front, if_pos h, joinT_yes r h, runT_yes r h]
  rfl
theorem front_no {x : Nd} (r : List Nd) (h : isText x = false) : front (x :: r) = x :: front r := by rw [front, if_neg (by simp [h])]

theorem filled_nil : filled [] = [] := rfl
theorem filled_cons (x : Nd) (l : List Nd) : filled (x :: l) = if bareB x then filled l else x :: filled l := by
  unfold filled
  rw [List.filter_cons]
  show (if (!(bareB x)) = true then _ else _) = _
  cases bareB x <;> rfl
theorem filled_append (a b : List Nd) : filled (a ++ b) = filled a ++ filled b := by simp [filled]
theorem filled_snoc (l : List Nd) (x : Nd) : filled (l ++ [x]) = if bareB x then filled l else filled l ++ [x] := by
  rw [filled_append, filled_cons, filled_nil]
  cases bareB x <;> simp
theorem filled_all (l : List Nd) : ∀ x ∈ filled l, bareB x = false := by
  intro x hx
  have := (List.mem_filter.1 hx).2
  show bareB x = false
  change (!(bareB x)) = true at this
  simpa using this
theorem filled_mem {l : List Nd} {x : Nd} (h : x ∈ filled l) : x ∈ l := (List.mem_filter.1 h).1
theorem foldl_filled (l : List Nd) : ∀ out, l.foldl push out = (filled l).foldl push out := by
  induction l with
  | nil => intro out; rfl
  | cons x r ih =>
    intro out
    rw [filled_cons, List.foldl_cons]
    cases h : bareB x
    · simp only [Bool.false_eq_true, if_false, List.foldl_cons]; exact ih _
    · rw [push_bare h, if_pos rfl]; exact ih _

/-- From the front and from behind are one. -/
theorem fold_texts (l : List Nd) : ∀ (out : List Nd) (y : Nd), (∀ x ∈ l, bareB x = false) → isText y = true → l.foldl push (out ++ [y]) = (l.drop (runT l)).foldl push (out ++ [withText y (cat y.text (joinT l))]) := by
  induction l with
  | nil => intro out y _ _; rw [joinT, cat_nil, withText_self]; rfl
  | cons x r ih =>
    intro out y hb hy
    have hx := hb x (by simp)
    cases ht : isText x
    · rw [joinT_no r ht, runT_no r ht, cat_nil, withText_self]; rfl
    · rw [List.foldl_cons, push_snoc hx, ht, hy, Bool.and_true, if_pos rfl, ih _ _ (fun z hz => hb z (by simp [hz])) (by rw [isText, withText_kind]; exact hy), joinT_yes r ht, runT_yes r ht, withText_text, withText_two, cat_assoc]
      rfl
theorem drop_run_head (l : List Nd) : ∀ x, (l.drop (runT l)).head? = some x → isText x = false := by
  induction l with
  | nil => intro x h; simp at h
  | cons y r ih =>
    intro x h
    cases ht : isText y
    · rw [runT_no r ht] at h; simp at h; subst h; exact ht
    · rw [runT_yes r ht] at h; exact ih x (by simpa using h)
theorem fold_front (n : Nat) : ∀ (l out : List Nd), l.length ≤ n → (∀ x ∈ l, bareB x = false) → (∀ y x, out.getLast? = some y → l.head? = some x → (isText x && isText y) = false) → l.foldl push out = out ++ front l := by
  induction n with
  | zero => intro l out hl _ _; obtain rfl : l = [] := List.eq_nil_of_length_eq_zero (by omega); rw [front_nil]; simp
  | succ n ih =>
    intro l out hl hb hj
    cases l with
    | nil => rw [front_nil]; simp
    | cons x r =>
      have hx := hb x (by simp)
      have hp : push out x = out ++ [x] := by
        rcases List.eq_nil_or_concat out with rfl | ⟨o, y, rfl⟩
        · rw [push_none hx]; rfl
        · rw [List.concat_eq_append, push_snoc hx, hj y x (by simp) rfl]; simp
      rw [List.foldl_cons, hp]
      cases ht : isText x
      · rw [front_no r ht, ih r _ (by simpa using hl) (fun z hz => hb z (by simp [hz])) (fun y z hy hz => by simp at hy; subst hy; rw [ht, Bool.and_false]), List.append_assoc]; rfl
      · rw [fold_texts r out x (fun z hz => hb z (by simp [hz])) ht, ih _ _ (by simp at hl ⊢; omega) (fun z hz => hb z (by simp [List.mem_of_mem_drop hz])) (fun y z hy hz => by rw [drop_run_head r z hz]; rfl), front_yes r ht, joinT_yes r ht, runT_yes r ht, List.append_assoc]
        rfl
theorem merge_front (l : List Nd) : merge l = front (filled l) := by
  unfold merge
  rw [foldl_filled, fold_front _ _ [] (Nat.le_refl _) (filled_all l) (fun y x hy => by simp at hy)]
  rfl

/-- No empty text, none right behind a text. -/
def apart : Bool → List Nd → Bool
  | _, [] => true
  | p, x :: r => !(isText x && (nilB x.text || p)) && apart (isText x) r
theorem apart_iff {p : Bool} {x : Nd} {r : List Nd} : apart p (x :: r) = true ↔ (isText x = true → nilB x.text = false ∧ p = false) ∧ apart (isText x) r = true := by
  rw [apart]
  cases isText x <;> cases nilB x.text <;> cases p <;> simp
theorem apart_weak {p : Bool} {l : List Nd} (h : apart p l = true) : apart false l = true := by
  cases l with
  | nil => rfl
  | cons x r => rw [apart_iff] at h ⊢; exact ⟨fun a => ⟨(h.1 a).1, rfl⟩, h.2⟩
theorem merge_apart (l : List Nd) : ∀ out : List Nd, (∀ y, out.getLast? = some y → apart (isText y) l = true) → apart false l = true → l.foldl push out = out ++ l := by
  induction l with
  | nil => intro out _ _; simp
  | cons x r ih =>
    intro out h1 h2
    rw [apart_iff] at h2
    have hx : bareB x = false := by
      rw [bareB]; cases ht : isText x
      · rfl
      · rw [(h2.1 ht).1]; rfl
    have hp : push out x = out ++ [x] := by
      rcases List.eq_nil_or_concat out with rfl | ⟨o, y, rfl⟩
      · rw [push_none hx]; rfl
      · rw [List.concat_eq_append] at h1 ⊢
        have h3 := h1 y (by simp)
        rw [apart_iff] at h3
        rw [push_snoc hx]
        have : (isText x && isText y) = false := by
          cases ht : isText x
          · rfl
          · rw [(h3.1 ht).2]; rfl
        rw [this]; simp
    rw [List.foldl_cons, hp, ih _ (fun y hy => by simp at hy; subst hy; exact h2.2) (apart_weak h2.2)]
    simp
theorem apart_front (n : Nat) : ∀ (l : List Nd) (p : Bool), l.length ≤ n → (∀ x ∈ l, bareB x = false) → (∀ x, l.head? = some x → (isText x && p) = false) → apart p (front l) = true := by
  induction n with
  | zero => intro l p hl _ _; obtain rfl : l = [] := List.eq_nil_of_length_eq_zero (by omega); rw [front_nil]; rfl
  | succ n ih =>
    intro l p hl hb hj
    cases l with
    | nil => rw [front_nil]; rfl
    | cons x r =>
      have hx := hb x (by simp)
      have hjx := hj x rfl
      cases ht : isText x
      · rw [front_no r ht, apart, ih r _ (by simpa using hl) (fun z hz => hb z (by simp [hz])) (fun z _ => by rw [ht, Bool.and_false]), ht]; rfl
      · have h1 : isText (withText x (joinT (x :: r))) = true := by rw [isText, withText_kind]; exact ht
        have h2 : nilB (joinT (x :: r)) = false := by
          rw [joinT_yes r ht, nilB_cat]
          have : nilB x.text = false := by rw [bareB, ht] at hx; simpa using hx
          rw [this]; rfl
        rw [ht, Bool.true_and] at hjx
        rw [front_yes r ht, apart, h1, withText_text, h2, hjx, ih _ _ (by rw [runT_yes r ht]; simp at hl ⊢; omega) (fun z hz => hb z (List.mem_of_mem_drop hz)) (fun z hz => by rw [drop_run_head (x :: r) z hz]; rfl)]
        rfl
theorem merge_apart' (l : List Nd) : apart false (merge l) = true := by
  rw [merge_front]
  exact apart_front _ _ _ (Nat.le_refl _) (filled_all l) (fun x _ => Bool.and_false _)
theorem merge_merge (l : List Nd) : merge (merge l) = merge l := by
  have h := merge_apart (merge l) [] (fun y hy => by simp at hy) (merge_apart' l)
  simpa [merge] using h

/-- What all of nodes keep, if merging does. -/
theorem merge_all {P : Nd → Prop} (hP : ∀ x y, P x → P y → isText x = true → isText y = true → P (withText x (cat x.text y.text))) (l : List Nd) (h : ∀ x ∈ l, P x) : ∀ x ∈ merge l, P x := by
  have key : ∀ (l out : List Nd), (∀ x ∈ l, P x) → (∀ x ∈ out, P x) → ∀ x ∈ l.foldl push out, P x := by
    intro l
    induction l with
    | nil => intro out _ ho; exact ho
    | cons x r ih =>
      intro out hl ho
      rw [List.foldl_cons]
      refine ih _ (fun z hz => hl z (by simp [hz])) ?_
      have hx := hl x (by simp)
      cases hb : bareB x
      · rcases List.eq_nil_or_concat out with rfl | ⟨o, y, rfl⟩
        · rw [push_none hb]; simpa using hx
        · rw [List.concat_eq_append] at ho ⊢
          rw [push_snoc hb]
          split
          · rename_i hc
            simp at hc
            intro z hz
            rcases List.mem_append.1 hz with hz | hz
            · exact ho z (by simp [hz])
            · simp at hz; subst hz
              exact hP y x (ho y (by simp)) hx hc.2 hc.1
          · intro z hz
            rcases List.mem_append.1 hz with hz | hz
            · exact ho z hz
            · simp at hz; subst hz; exact hx
      · rw [push_bare hb]; exact ho
  exact key l [] h (fun x hx => by cases hx)

/-- A node that may be anywhere but for its being an empty text, or behind a text. -/
def okP (x : Nd) : Prop := if isText x then plainB x = true ∧ M1.isB x.text.data.toList = true else oneE x false = 0 ∧ mayE false x.kids = 0
theorem plain_kids {x : Nd} (h : plainB x = true) : x.kids = [] := by simp [plainB] at h; exact h.2
theorem may_of_ok (l : List Nd) : ∀ p, (∀ x ∈ l, okP x) → apart p l = true → mayE p l = 0 := by
  induction l with
  | nil => intro p _ _; exact mayE_nil p
  | cons x r ih =>
    intro p h hap
    have hx := h x (by simp)
    rw [apart_iff] at hap
    rw [mayE_cons]
    unfold okP at hx
    cases ht : isText x
    · rw [ht] at hx
      simp only [Bool.false_eq_true, if_false] at hx
      have h1 : oneE x p = oneE x false := by
        have : ¬ x.kind = 2 := by simpa [isText] using ht
        unfold oneE
        rw [if_neg this, if_neg this]
      have h2 : (x.kind == 2) = false := ht
      rw [h1, hx.1, hx.2, h2]
      simp only [ne_eq, not_true_eq_false, if_false]
      exact ih false (fun z hz => h z (by simp [hz])) (by have h := hap.2; rwa [ht] at h)
    · rw [ht, if_pos rfl] at hx
      have hk : x.kind = 2 := by simpa [isText] using ht
      have h1 : oneE x p = 0 := by
        unfold oneE
        rw [if_neg (by omega), if_pos hk, if_pos hx.1, hx.2, (hap.1 ht).1, (hap.1 ht).2]
        rfl
      rw [h1, plain_kids hx.1, mayE_nil]
      have h2 : (x.kind == 2) = true := ht
      rw [h2]
      simp only [ne_eq, not_true_eq_false, if_false]
      exact ih true (fun z hz => h z (by simp [hz])) (by have h := hap.2; rwa [ht] at h)
theorem isB_append {a b : List UInt8} (ha : M1.isB a = true) (hb : M1.isB b = true) : M1.isB (a ++ b) = true := by
  rw [← (M1.isB_right_iff a).1 ha, ← (M1.isB_right_iff b).1 hb]
  exact M1.isB_join a b
theorem okP_cat (x y : Nd) (hx : okP x) (hy : okP y) (h1 : isText x = true) (h2 : isText y = true) : okP (withText x (cat x.text y.text)) := by
  have ht : isText (withText x (cat x.text y.text)) = true := by rw [isText, withText_kind]; exact h1
  unfold okP at *
  rw [h1, if_pos rfl] at hx
  rw [h2, if_pos rfl] at hy
  rw [ht, if_pos rfl]
  refine ⟨?_, ?_⟩
  · have := hx.1; cases x; exact this
  · rw [withText_text, cat_data]; exact isB_append hx.2 hy.2
theorem may_merge (l : List Nd) (h : ∀ x ∈ l, okP x) : mayE false (merge l) = 0 := may_of_ok _ _ (merge_all okP_cat l h) (merge_apart' l)
end M3
end Go.Proofs.Ytjelmpajphajfaa

/- Nodes by the cells that hold them, one level deep: rows that share what stands in them. -/
namespace Go.Proofs.Ytjelmpajphajfaa
open Go.RowKit

abbrev NV.cells (b : NV) : List Value := b.x.cells b.va b.vk
def cellsV (L : List NV) : List Value := L.flatMap NV.cells
def NV.ok (b : NV) : Prop := (∃ a c, b.va = .slice a b.x.attrs.length c) ∧ ∃ a c, b.vk = .slice a b.x.kids.length c
theorem cellsV_nil : cellsV [] = [] := rfl
theorem cellsV_cons (b : NV) (L : List NV) : cellsV (b :: L) = b.cells ++ cellsV L := rfl
theorem cellsV_append (A B : List NV) : cellsV (A ++ B) = cellsV A ++ cellsV B := by simp [cellsV]
theorem cellsV_one (b : NV) : cellsV [b] = b.cells := by simp [cellsV]
theorem cellsV_snoc (A : List NV) (b : NV) : cellsV (A ++ [b]) = cellsV A ++ b.cells := by rw [cellsV_append, cellsV_one]
theorem cellsV_len (L : List NV) : (cellsV L).length = L.length * 5 := by
  induction L with
  | nil => rfl
  | cons b r ih => rw [cellsV_cons, List.length_append, ih, List.length_cons]; simp; omega
theorem RepV.ok {S : Nat → Prop} {w : World} {b : NV} (h : RepV S w b.x b.va b.vk) : b.ok := ⟨h.at_.slice, h.kids.slice⟩
theorem RepC.nv {S : Nat → Prop} {w : World} : ∀ (l : List Nd) (xs : List Value), RepC S w xs l → ∃ L : List NV, L.map NV.x = l ∧ xs = cellsV L ∧ ∀ b ∈ L, RepV S w b.x b.va b.vk := by
  intro l
  induction l using Nd.ind with
  | h0 => intro xs h; rw [RepC] at h; exact ⟨[], rfl, h, fun b hb => by cases hb⟩
  | h1 k n ats t ks r _ ih2 =>
    intro xs h
    obtain ⟨va, vk, ys, rfl, h2, h3, h5⟩ := RepC.cons_iff.1 h
    obtain ⟨L, rfl, rfl, hL⟩ := ih2 _ h5
    refine ⟨⟨.mk k n ats t ks, va, vk⟩ :: L, rfl, rfl, fun b hb => ?_⟩
    rcases List.mem_cons.1 hb with rfl | hb
    · exact ⟨h2, h3⟩
    · exact hL b hb
theorem RepC.of_nv {S : Nat → Prop} {w : World} {L : List NV} (h : ∀ b ∈ L, RepV S w b.x b.va b.vk) : RepC S w (cellsV L) (L.map NV.x) := by
  induction L with
  | nil => exact RepC.nil _ _
  | cons b r ih =>
    rw [cellsV_cons, List.map_cons]
    exact RepC.append (m := r.map NV.x) (ih (fun c hc => h c (by simp [hc]))) [b.x] _ (RepC.single (h b (by simp)))
theorem cellsV_at (L : List NV) (i : Nat) (h : i < L.length) :
    (cellsV L)[i * 5]? = some (.int .i64 L[i].x.kind) ∧ (cellsV L)[i * 5 + 1]? = some (.string L[i].x.name) ∧ (cellsV L)[i * 5 + 2]? = some L[i].va ∧ (cellsV L)[i * 5 + 3]? = some (.string L[i].x.text) ∧ (cellsV L)[i * 5 + 4]? = some L[i].vk := by
  induction L generalizing i with
  | nil => simp at h
  | cons b r ih =>
    cases i with
    | zero => simp [cellsV_cons, NV.cells]
    | succ i =>
      have := ih i (by simpa using h)
      rw [cellsV_cons, show (i + 1) * 5 = i * 5 + 1 + 1 + 1 + 1 + 1 by omega]
      simpa [NV.cells] using this
theorem Row.atV {S : Nat → Prop} {w : World} {a : Option Addr} {n cap : Nat} {L : List NV} (h : Row S w 5 (.slice a n cap) L.length (cellsV L)) (i : Nat) (hi : i < L.length) :
    ∃ b off, a = some ⟨b, off, none⟩ ∧ S b ∧ w.cell? ⟨b, off + i * 5, none⟩ = some (.int .i64 L[i].x.kind) ∧ w.cell? ⟨b, off + i * 5 + 1, none⟩ = some (.string L[i].x.name) ∧ w.cell? ⟨b, off + i * 5 + 2, none⟩ = some L[i].va ∧ w.cell? ⟨b, off + i * 5 + 3, none⟩ = some (.string L[i].x.text) ∧ w.cell? ⟨b, off + i * 5 + 4, none⟩ = some L[i].vk := by
  obtain ⟨h0, a', cap', h1, h2, h3, h4, h5⟩ := h
  cases h1
  obtain ⟨b, off, rfl, h7, h8⟩ := h5 (by omega)
  obtain ⟨c0, c1, c2, c3, c4⟩ := cellsV_at L i hi
  exact ⟨b, off, rfl, h7, h8 _ _ c0, h8 _ _ c1, h8 _ _ c2, h8 _ _ c3, h8 _ _ c4⟩
/-- What lies in a row of the call's own. -/
theorem own_atV {w : World} {B g : Nat} {n cap : Nat} {L : List NV} (h : w.ownsRow B 28 5 (.slice (some ⟨g, 0, none⟩) n cap) n (cellsV L)) (i : Nat) (hi : i < L.length) :
    w.cell? ⟨g, i * 5, none⟩ = some (.int .i64 L[i].x.kind) ∧ w.cell? ⟨g, i * 5 + 3, none⟩ = some (.string L[i].x.text) ∧ w.frozen? ⟨g, i * 5 + 3, none⟩ = false := by
  obtain ⟨c0, c1, c2, c3, c4⟩ := cellsV_at L i hi
  have hc := fun j u hu => h.cells (g := g) rfl j u hu
  refine ⟨by have := hc _ _ c0; rwa [add_plain', Nat.zero_add] at this, by have := hc _ _ c3; rwa [add_plain', Nat.zero_add] at this, ?_⟩
  rcases h.2 with ⟨h', _⟩ | ⟨g', cap', cur, h', _, hg, _⟩
  · cases h'
  · cases h'
    simp [World.frozen?, hg]

/-- 'append(s, x)' of one element of k cells onto a row that the call owns. -/
theorem wpList_appK {P : Program} {ops : Array Oper} {rest : List Oper} {o : Oper} {a : Act} {Q : Exit → Act → World → Prop} (w1 : World) (cs : List Value) (k : Nat) (hgd : o.guard = none) (s y : Operand) (t e : TypeId)
    (ho : o.op = .call { callee := .builtin .append, args := #[s, y], argTypes := #[t, t] }) (base : Nat) {z : Value} {bytes : Nat} (ht : P.underlying t = some (.slice e))
    (hinfo : (P.info? e).map (fun i => (i.zero, i.size, i.bytes)) = some (some z, k, bytes)) (hz : z.cells.size = k) (hk : 0 < k)
    (v : Value) (n : Nat) (xs : List Value) (hs : a.eval s = v) (hown : w1.ownsRow base e k v n xs) (H : Nat) (hH : w1.heap.size = H) (hx : a.eval y = .slice (some ⟨H, 0, none⟩) 1 1) (hcs : cs.length = k) (h1 : ∀ u ∈ cs, u.oneCell' = true)
    (h63 : n + 1 ≤ 9223372036854775807) (hbytes : (n + 1) * bytes ≤ 140737488355328) (hbase : base ≤ w1.heap.size)
    (h : ∀ g cap w2, w2.ownsRow base e k (.slice (some ⟨g, 0, none⟩) (n + 1) cap) (n + 1) (xs ++ cs) → w1.grownBy w2 v.ownBlock → (v.ownBlock = some g ∨ w1.heap.size ≤ g) → wpList P ops Q rest (a.put o.dst (.slice (some ⟨g, 0, none⟩) (n + 1) cap)) w2) : wpList P ops Q (o :: rest) a (w1.alloc (.cells cs.toArray e)) := by
  subst hH
  obtain ⟨i, hi, hz0, hz1, hz2⟩ := info_parts hinfo
  refine wpList_append_lies _ hgd s y t ho base e i z k bytes ht hi hz0 hz1 hz2 hz hk v n xs hs (hown.alloc _) ⟨w1.heap.size, 0, none⟩ 1 1 cs hx (by omega) ?_ h1 (by omega) (by unfold maxLen; omega) hbytes (by simp; omega) _ rfl ?_
  · intro j u hj
    rw [add_plain', Nat.zero_add, World.cell?_alloc_at _ _ _ _ rfl]
    simpa using hj
  · intro g cap w2 h2 h3 h4 _
    exact h g cap w2 h2 (grownBy_of_alloc h3) (by
      rcases h4 with h4 | h4
      · exact .inl h4
      · right; rw [h4]; simp)
theorem own_below {w w1 : World} {base : Nat} {e : TypeId} {k : Nat} {v : Value} {n : Nat} {xs : List Value} (h : w.ownsRow base e k v n xs) (hb : Below w.heap.size w w1) : w1.ownsRow base e k v n xs :=
  own_keep h (fun g hg => hb.block g (h.lt g hg).2)
theorem below_own {B base : Nat} {e : TypeId} {k n : Nat} {v : Value} {xs : List Value} {a w w' : World} (h : Below B a w) (hown : w.ownsRow base e k v n xs) (hg : w.grownBy w' v.ownBlock) (hB : B ≤ w.heap.size) (hb : B ≤ base) : Below B a w' :=
  h.grown hg hB (fun k hk => by have := (hown.lt k hk).1; omega)

/-! ### Parts of a row of nodes -/
theorem RepN.take {S : Nat → Prop} {w : World} {a : Option Addr} {n cap : Nat} {l : List Nd} (h : RepN S w (.slice a n cap) l) (q : Nat) (hq : q ≤ l.length) : RepN S w (.slice a q cap) (l.take q) := by
  obtain ⟨xs, ⟨h1, a', cap', h2, h3, h4, h5, h6⟩, hc⟩ := h
  cases h2
  refine ⟨xs.take (q * 5), ⟨by simp; omega, a, cap, by simp; omega, by simp; omega, h4, h5, fun hp => ?_⟩, RepC.take l xs q hc⟩
  simp at hp
  obtain ⟨b, off, e, hb, hx⟩ := h6 (by omega)
  refine ⟨b, off, e, hb, fun j u hj => hx j u ?_⟩
  rw [List.getElem?_take] at hj
  split at hj
  · exact hj
  · cases hj
theorem RepN.zero (S : Nat → Prop) (w : World) (b : Nat) : RepN S w (.slice (some ⟨b, 0, none⟩) 0 0) [] := ⟨[], ⟨rfl, some ⟨b, 0, none⟩, 0, rfl, Nat.le_refl _, by omega, (fun e => by cases e), fun h => absurd h (by simp)⟩, RepC.nil _ _⟩
theorem RepN.drop {S : Nat → Prop} {w : World} {b : Nat} {off n cap : Nat} {l : List Nd} (h : RepN S w (.slice (some ⟨b, off, none⟩) n cap) l) (q : Nat) (hq : q ≤ l.length) : RepN S w (.slice (some ⟨b, off + q * 5, none⟩) (n - q) (cap - q)) (l.drop q) := by
  obtain ⟨xs, ⟨h1, a', cap', h2, h3, h4, h5, h6⟩, hc⟩ := h
  cases h2
  refine ⟨xs.drop (q * 5), ⟨by simp; omega, some ⟨b, off + q * 5, none⟩, cap - q, by simp, by simp; omega, by omega, (fun e => by cases e), fun hp => ?_⟩, RepC.drop l xs q hc⟩
  simp at hp
  obtain ⟨b', off', e, hb, hx⟩ := h6 (by omega)
  cases e
  refine ⟨b, off + q * 5, rfl, hb, fun j u hj => ?_⟩
  rw [List.getElem?_drop] at hj
  have := hx _ u hj
  rwa [← Nat.add_assoc] at this

/-- 's[q:]', as the walk has it. -/
theorem RepN.rest {S : Nat → Prop} {w : World} {b : Nat} {off n cap : Nat} {l : List Nd} (h : RepN S w (.slice (some ⟨b, off, none⟩) n cap) l) (q : Nat) (hq : q ≤ l.length) :
    RepN S w (.slice (if cap = q then some ⟨b, off, none⟩ else some ⟨b, off + q * 5, none⟩) (n - q) (cap - q)) (l.drop q) := by
  obtain ⟨hn, hc, _⟩ := h.len
  by_cases e : cap = q
  · rw [if_pos e]
    have h1 : l.drop q = [] := List.drop_of_length_le (by omega)
    rw [h1, show n - q = 0 by omega, show cap - q = 0 by omega]
    exact ⟨[], ⟨rfl, some ⟨b, off, none⟩, 0, rfl, Nat.le_refl _, by omega, (fun e => by cases e), fun h => absurd h (by simp)⟩, RepC.nil _ _⟩
  · rw [if_neg e]
    exact h.drop q hq

/-! ### Merged, by cells -/
def NV.withText (b : NV) (t : ByteArray) : NV := ⟨M3.withText b.x t, b.va, b.vk⟩
def bareV (b : NV) : Bool := M3.bareB b.x
def pushV (out : List NV) (b : NV) : List NV :=
  if bareV b then out
  else match out.getLast? with
    | some y => if M3.isText b.x && M3.isText y.x then out.dropLast ++ [y.withText (M3.cat y.x.text b.x.text)] else out ++ [b]
    | none => out ++ [b]
def mergeV (L : List NV) : List NV := L.foldl pushV []
theorem pushV_bare {out : List NV} {b : NV} (h : bareV b = true) : pushV out b = out := by unfold pushV; rw [if_pos h]
theorem pushV_nil {b : NV} (h : bareV b = false) : pushV [] b = [b] := by unfold pushV; rw [if_neg (by simp [h])]; rfl
theorem pushV_snoc {out : List NV} {b y : NV} (h : bareV b = false) : pushV (out ++ [y]) b = if M3.isText b.x && M3.isText y.x then out ++ [y.withText (M3.cat y.x.text b.x.text)] else out ++ [y] ++ [b] := by
  unfold pushV
  rw [if_neg (by simp [h])]
  simp
theorem mergeV_snoc (L : List NV) (b : NV) : mergeV (L ++ [b]) = pushV (mergeV L) b := by simp [mergeV]
theorem pushV_map (out : List NV) (b : NV) : (pushV out b).map NV.x = M3.push (out.map NV.x) b.x := by
  cases h : bareV b
  · rcases List.eq_nil_or_concat out with rfl | ⟨o, y, rfl⟩
    · rw [pushV_nil h]; exact (M3.push_none h).symm
    · rw [List.concat_eq_append, pushV_snoc h, List.map_append, List.map_cons, List.map_nil, M3.push_snoc h]
      split <;> simp [NV.withText]
  · rw [pushV_bare h, M3.push_bare h]
theorem mergeV_map (L : List NV) : (mergeV L).map NV.x = M3.merge (L.map NV.x) := by
  have key : ∀ (L out : List NV), (L.foldl pushV out).map NV.x = (L.map NV.x).foldl M3.push (out.map NV.x) := by
    intro L
    induction L with
    | nil => intro out; rfl
    | cons b r ih => intro out; rw [List.foldl_cons, ih, pushV_map]; rfl
  exact key L []
def txtV (L : List NV) : Nat := (L.map fun b => b.x.text.size).sum
theorem txtV_append (A B : List NV) : txtV (A ++ B) = txtV A + txtV B := by simp [txtV]
theorem txtV_one (b : NV) : txtV [b] = b.x.text.size := by simp [txtV]
theorem cat_size (s t : ByteArray) : (M3.cat s t).size = s.size + t.size := by
  show (M3.cat s t).data.toList.length = s.data.toList.length + t.data.toList.length
  rw [M3.cat_data, List.length_append]
theorem txtV_push (out : List NV) (b : NV) : txtV (pushV out b) ≤ txtV out + b.x.text.size ∧ (pushV out b).length ≤ out.length + 1 := by
  cases h : bareV b
  · rcases List.eq_nil_or_concat out with rfl | ⟨o, y, rfl⟩
    · rw [pushV_nil h, txtV_one]; simp
    · rw [List.concat_eq_append, pushV_snoc h]
      split
      · rw [txtV_append, txtV_append, txtV_one, txtV_one]; simp [NV.withText, M3.withText_text, cat_size]; omega
      · rw [txtV_append, txtV_one]; simp
  · rw [pushV_bare h]; omega
theorem txtV_merge (L : List NV) : txtV (mergeV L) ≤ txtV L ∧ (mergeV L).length ≤ L.length := by
  have key : ∀ (L out : List NV), txtV (L.foldl pushV out) ≤ txtV out + txtV L ∧ (L.foldl pushV out).length ≤ out.length + L.length := by
    intro L
    induction L with
    | nil => intro out; simp [txtV]
    | cons b r ih =>
      intro out
      have h1 := ih (pushV out b)
      have h2 := txtV_push out b
      have h3 : txtV (b :: r) = b.x.text.size + txtV r := by simp [txtV]
      rw [List.foldl_cons, h3, List.length_cons]
      omega
  have := key L []
  simpa [mergeV, txtV] using this
theorem txtV_mem {L : List NV} {b : NV} (h : b ∈ L) : b.x.text.size ≤ txtV L := by
  induction L with
  | nil => cases h
  | cons c r ih =>
    have h3 : txtV (c :: r) = c.x.text.size + txtV r := by simp [txtV]
    rcases List.mem_cons.1 h with rfl | h
    · omega
    · have := ih h; omega
end Go.Proofs.Ytjelmpajphajfaa

/- The document's answers of layer 2: names, digits, numbers, the reference at the beginning. -/
namespace Go.Proofs.Ytjelmpajphajfaa
open Go.RowKit

def namesV : List Value := M2.tbl.map fun p => .string ⟨p.1.toArray⟩
def codesV : List Value := M2.tbl.map fun p => .int .i64 (p.2 : Int)

/-- A digit of a base, as it is told there. -/
def digN (b : Nat) (r : Int) : Int := if (b : Int) ≤ M2.digZ r then -1 else M2.digZ r

theorem digN_no {b : Nat} {c : UInt8} (h : M2.isD b c = false) : digN b c.toNat < 0 := by
  unfold digN
  have := M2.isD_no h
  split <;> omega
theorem digN_yes {b : Nat} {c : UInt8} (h : M2.isD b c = true) : digN b c.toNat = M2.digZ c.toNat ∧ 0 ≤ digN b c.toNat ∧ digN b c.toNat < b := by
  unfold M2.isD at h
  have := of_decide_eq_true h
  unfold digN
  rw [if_neg (by omega)]
  omega

/-- What a call answers of a number that may be none. -/
def ansB (o : Option Int) : Value := .tuple #[.int .i64 (o.getD 0), .bool o.isSome]
theorem ansB_mk (o : Option Int) : ∃ x y, ansB o = .tuple #[.int .i64 x, .bool y] := ⟨_, _, rfl⟩


end Go.Proofs.Ytjelmpajphajfaa

/- The document's answers of layer 2, the rest: the reference at the beginning, texts decoded, texts written. -/
namespace Go.Proofs.Ytjelmpajphajfaa
open Go.RowKit

/-- What a call answers of a reference, in numbers. -/
def ansI (o : Option (Int × Nat)) : Value := .tuple #[.int .i64 ((o.map (·.1)).getD 0), .int .i64 (((o.map (·.2)).getD 0 : Nat) : Int)]
theorem ansI_none : ansI none = .tuple #[.int .i64 0, .int .i64 0] := rfl
theorem ansI_some (r : Int) (n : Nat) : ansI (some (r, n)) = .tuple #[.int .i64 r, .int .i64 (n : Int)] := rfl
theorem ansB_none : ansB none = .tuple #[.int .i64 0, .bool false] := rfl
theorem ansB_some (r : Int) : ansB (some r) = .tuple #[.int .i64 r, .bool true] := rfl
theorem ne_byte {c d : UInt8} (h : c ≠ d) : ((c.toNat : Int) == (d.toNat : Int)) = false := by
  simp only [beq_eq_false_iff_ne]
  intro e
  exact h (UInt8.toNat_inj.1 (by omega))

theorem own_get (o : ByteArray) (k : Nat) (h : k < o.size) : o.data.toList[k]? = some o[k] := List.getElem?_eq_getElem (l := o.data.toList) h
theorem own_list (o : ByteArray) : o.data.toList.length = o.size := rfl
theorem own_two (o : ByteArray) (h : 1 < o.size) : ∃ t, o.data.toList = o[0] :: o[1] :: t := by
  have h0 := own_get o 0 (by omega)
  have h1 := own_get o 1 h
  generalize o.data.toList = l at *
  match l, h0, h1 with
  | a :: b :: t, h0, h1 =>
    simp at h0 h1
    exact ⟨t, by rw [h0, h1]⟩
theorem own_one (o : ByteArray) (h : 0 < o.size) : ∃ t, o.data.toList = o[0] :: t := by
  have h0 := own_get o 0 h
  generalize o.data.toList = l at *
  match l, h0 with
  | a :: t, h0 =>
    simp at h0
    exact ⟨t, by rw [h0]⟩
theorem ownB_16 (o : ByteArray) (h : 1 < o.size) (h0 : o[0] = 35) (h1 : o[1] = 120 ∨ o[1] = 88) : M2.ownB o.data.toList = M2.numR 16 6 (o.extract 2 o.size).data.toList := by
  obtain ⟨t, ht⟩ := own_two o h
  rw [extract_end, ht, M2.ownB, if_pos]
  rw [h0]
  rcases h1 with h1 | h1
  · left; rw [h1]; rfl
  · right; rw [h1]; rfl
theorem ownB_10 (o : ByteArray) (h : 1 < o.size) (h0 : o[0] = 35) (h1 : ¬ o[1] = 120) (h2 : ¬ o[1] = 88) : M2.ownB o.data.toList = M2.numR 10 7 (o.extract 1 o.size).data.toList := by
  obtain ⟨t, ht⟩ := own_two o h
  rw [extract_end, ht, M2.ownB, if_neg, if_pos]
  · rw [h0]; rfl
  · simp [h1, h2]
theorem ownB_10' (o : ByteArray) (h : o.size = 1) (h0 : o[0] = 35) : M2.ownB o.data.toList = M2.numR 10 7 (o.extract 1 o.size).data.toList := by
  obtain ⟨t, ht⟩ := own_one o (by omega)
  have hl := own_list o
  rw [ht] at hl
  have : t = [] := List.eq_nil_of_length_eq_zero (by simp at hl; omega)
  subst this
  rw [extract_end, ht, M2.ownB, if_neg (by simp), if_pos]
  rw [h0]; rfl
theorem ownB_nm (o : ByteArray) (h : 0 < o.size) (h0 : ¬ o[0] = 35) : M2.ownB o.data.toList = (M2.nm o.data.toList).map Int.ofNat := by
  obtain ⟨t, ht⟩ := own_one o h
  rw [ht, M2.ownB, if_neg, if_neg]
  · simp [h0]
  · cases t <;> simp [h0]
theorem ownB_nm0 (o : ByteArray) (h : o.size = 0) : M2.ownB o.data.toList = (M2.nm o.data.toList).map Int.ofNat := by
  have : o.data.toList = [] := List.eq_nil_of_length_eq_zero h
  rw [this]
  rfl
theorem byte_of {c : UInt8} {n : Nat} (h : (c.toNat : Int) = n) (hn : n < 256) : c = n.toUInt8 := by
  apply UInt8.toNat_inj.1
  rw [M1.toNat_u8 n hn]
  omega
theorem byte_no {c : UInt8} {n : Nat} (h : ¬ (c.toNat : Int) = n) (hn : n < 256) : ¬ c = n.toUInt8 := by
  rintro rfl
  rw [M1.toNat_u8 n hn] at h
  exact h rfl

/-- What is answered where the first ; is at place k. -/
def resI (k : Nat) : Option Int → Value
  | none => .tuple #[.int .i64 0, .int .i64 0]
  | some r => .tuple #[.int .i64 r, .int .i64 ((k : Int) + 1)]


end Go.Proofs.Ytjelmpajphajfaa

/- The document's answers of layer 2, the rest: texts decoded, texts written. -/
namespace Go.Proofs.Ytjelmpajphajfaa
open Go.RowKit

theorem cat_mk (a : List UInt8) (b : ByteArray) : (⟨a.toArray⟩ : ByteArray) ++ b = ⟨(a ++ b.data.toList).toArray⟩ := by
  apply ByteArray.ext
  simp
theorem str_val {a b : ByteArray} (h : a = b) : Value.string a = .string b := by rw [h]

theorem dec_step (l : List UInt8) (k : Nat) (h : k < l.length) : M2.decode (l.drop k) = match M2.one (l.drop k) with | none => l[k] :: M2.decode (l.drop (k + 1)) | some p => M1.enc p.1 ++ M2.decode (l.drop (k + p.2)) := by
  cases ho : M2.one (l.drop k) with
  | none =>
    have e : l.drop k = l[k] :: l.drop (k + 1) := List.drop_eq_getElem_cons h
    rw [e] at ho ⊢
    exact M2.decode_byte ho
  | some p =>
    obtain ⟨r, n⟩ := p
    rw [M2.decode_ref ho, List.drop_drop]

set_option maxHeartbeats 4000000 in
set_option maxRecDepth 100000 in
theorem ref02Escape (s : ByteArray) (v : Bool) (w : World) (hs : s.size ≤ 1073741824) :
    Calls Try.prog 41 #[.string s, .bool v] w fun e w' => e = .returned (.string ⟨(M2.escape v s.data.toList).toArray⟩) ∧ w' = w := by
  go_enter Try.func41, Try.ntmps41
  go_wp2
  go_loop [5, 6] (fun o i => ∃ k : Nat, k ≤ s.size ∧ i = .int .i64 k ∧ o = .string ⟨(M2.escape v (s.data.toList.take k)).toArray⟩) (fun _ i => s.size - (intOf i).toNat)
  case atStart => exact ⟨0, by omega, rfl, rfl⟩
  case round =>
    obtain ⟨k, hk, rfl, rfl⟩ := hrel
    by_cases hlt : k < s.size
    · have htk : M2.escape v (s.data.toList.take (k + 1)) = M2.escape v (s.data.toList.take k) ++ M2.esc v s[k] := by
        rw [show s.data.toList.take (k + 1) = s.data.toList.take k ++ [s[k]] from List.take_succ_eq_append_getElem (l := s.data.toList) hlt, M2.escape_append]
        simp [M2.escape]
      have hx1 : (s.extract k (k + 1)).data.toList = [s[k]] := by
        rw [Lib.extract_data, show s.data.toList.drop k = s[k] :: s.data.toList.drop (k + 1) from List.drop_eq_getElem_cons hlt]
        simp
      have hlen := M2.escape_len v (s.data.toList.take k)
      have hle1 : (s.data.toList.take k).length ≤ k := List.length_take_le _ _
      have fin : ∀ (add : ByteArray), M2.esc v s[k] = add.data.toList → (⟨(M2.escape v (s.data.toList.take k)).toArray⟩ : ByteArray) ++ add = ⟨(M2.escape v (s.data.toList.take (k + 1))).toArray⟩ := by
        intro add h
        rw [htk, h, cat_mk]
      replace fin := Lib.hid fin
      clear htk
      by_cases h38 : s[k] = 38
      · have F := Lib.hid (fin.out ⟨#[38, 97, 109, 112, 59]⟩ (by rw [h38]; rfl))
        clear fin hx1
        go_wp2
        go_round
        case rel => exact ⟨k + 1, by omega, by go_num, str_val F.out⟩
        case measure => simp [intOf]; omega
      have h38b : ((s[k].toNat : Int) == 38) = false := ne_byte (d := 38) h38
      by_cases h60 : s[k] = 60
      · have F := Lib.hid (fin.out ⟨#[38, 108, 116, 59]⟩ (by rw [h60]; rfl))
        clear fin hx1 h38
        go_wp2
        go_round
        case rel => exact ⟨k + 1, by omega, by go_num, str_val F.out⟩
        case measure => simp [intOf]; omega
      have h60b : ((s[k].toNat : Int) == 60) = false := ne_byte (d := 60) h60
      by_cases h62 : s[k] = 62
      · have F := Lib.hid (fin.out ⟨#[38, 103, 116, 59]⟩ (by rw [h62]; rfl))
        clear fin hx1 h38 h60
        go_wp2
        go_round
        case rel => exact ⟨k + 1, by omega, by go_num, str_val F.out⟩
        case measure => simp [intOf]; omega
      have h62b : ((s[k].toNat : Int) == 62) = false := ne_byte (d := 62) h62
      by_cases h34 : s[k] = 34
      · cases v
        · have F := Lib.hid (fin.out (s.extract k (k + 1)) (by rw [hx1, h34]; rfl))
          clear fin hx1 h38 h60 h62
          go_wp2
          go_round
          case rel => exact ⟨k + 1, by omega, by go_num, str_val F.out⟩
          case measure => simp [intOf]; omega
        · have F := Lib.hid (fin.out ⟨#[38, 113, 117, 111, 116, 59]⟩ (by rw [h34]; rfl))
          clear fin hx1 h38 h60 h62
          go_wp2
          go_round
          case rel => exact ⟨k + 1, by omega, by go_num, str_val F.out⟩
          case measure => simp [intOf]; omega
      have h34b : ((s[k].toNat : Int) == 34) = false := ne_byte (d := 34) h34
      have F := Lib.hid (fin.out (s.extract k (k + 1)) (by rw [hx1, M2.esc, if_neg h38, if_neg h60, if_neg h62, if_neg (fun e => h34 e.1)]))
      clear fin hx1 h38 h60 h62 h34
      go_wp2
      go_round
      case rel => exact ⟨k + 1, by omega, by go_num, str_val F.out⟩
      case measure => simp [intOf]; omega
    · obtain rfl : k = s.size := by omega
      have ht : s.data.toList.take s.size = s.data.toList := List.take_of_length_le (Nat.le_refl _)
      replace ht := Lib.hid ht
      clear hlt
      go_wp2
      go_ret
      rw [ht.out]
      exact ⟨rfl, rfl⟩
end Go.Proofs.Ytjelmpajphajfaa

/- The reference of layer 3: merged. -/
namespace Go.Proofs.Ytjelmpajphajfaa
open Go.RowKit

/-- A row of nodes that the call has made; what stands in them is shared. -/
def ShPost (L : List NV) (w : World) (e : Ending) (w' : World) : Prop := ∃ v', e = .returned v' ∧ w'.ownsRow w.heap.size 28 5 v' L.length (cellsV L) ∧ Below w.heap.size w w'
theorem five_one (k : Int) (n t : ByteArray) (a1 a2 : Option Addr) (n1 c1 n2 c2 : Nat) : ∀ u ∈ ([.int .i64 k, .string n, .slice a1 n1 c1, .string t, .slice a2 n2 c2] : List Value), u.oneCell' = true := by simp [Value.oneCell']
theorem meas_nat {n k : Nat} (h : k < n) : n - (intOf (.int .i64 ((k : Int) + 1))).toNat < n - (intOf (.int .i64 (k : Int))).toNat := by
  show n - ((k : Int) + 1).toNat < n - (k : Int).toNat
  omega
theorem cat_eq (s t : ByteArray) : M3.cat s t = s ++ t := by
  have h := cat_mk s.data.toList t
  have e : (⟨s.data.toList.toArray⟩ : ByteArray) = s := by cases s; simp
  rw [e] at h
  rw [h]; rfl
theorem setText_cells (A : List NV) (y : NV) (t : ByteArray) (i : Nat) (h : i = A.length) : (cellsV (A ++ [y])).set (i * 5 + 3) (.string t) = cellsV (A ++ [y.withText t]) := by
  subst h
  rw [cellsV_snoc, cellsV_snoc]
  have h5 : (cellsV A).length = A.length * 5 := cellsV_len A
  rw [List.set_append_right _ _ (by omega), h5, show A.length * 5 + 3 - A.length * 5 = 3 by omega]
  obtain ⟨x, va, vk⟩ := y
  cases x
  rfl

set_option maxHeartbeats 4000000 in
set_option maxRecDepth 100000 in
theorem ref03MergeV (S : Nat → Prop) (v : Value) (L : List NV) (w : World) (hS : ∀ b, S b → b < w.heap.size) (hr : Row S w 5 v L.length (cellsV L)) (hok : ∀ b ∈ L, b.ok) (hl : L.length ≤ 1000000) (ht : txtV L ≤ 1073741824) :
    Calls Try.prog 28 #[v] w (ShPost (mergeV L) w) := by
  obtain ⟨a, cap, rfl⟩ := hr.slice
  obtain ⟨_, hlc, hcm⟩ := hr.len
  replace hok := Lib.hid hok
  go_enter Try.func28, Try.ntmps28
  go_wp2_with (fail)
  go_loopw [3, 4, 5] (fun u3 u4 u5 wr => ∃ (i : Nat) (A : List NV), i ≤ L.length ∧ u4 = .int .i64 (i : Int) ∧ Hid (A = mergeV (L.take i)) ∧ wr.ownsRow w.heap.size 28 5 u3 A.length (cellsV A) ∧ Below w.heap.size w wr) (fun _ u4 _ _ => L.length - (intOf u4).toNat)
  case atStart => exact ⟨0, [], by omega, rfl, rfl, World.ownsRow_nil _ _ _ _, Below.refl _ _⟩
  case round =>
    obtain ⟨i, A, hi, rfl, hA, hown, hb⟩ := hrel
    have hlen : ∀ W, (Builtin.len_ #[22] 3 #[u3]).run Try.prog W = .ok (.int .i64 (A.length : Int)) W := by
      obtain ⟨a3, cap3, rfl⟩ := own_slice hown
      exact fun _ => rfl
    have hz := hb.size
    have hAl : A.length ≤ 1000000 := by rw [hA.out]; have := (txtV_merge (L.take i)).2; have := List.length_take_le i L; omega
    have hAt : txtV A ≤ 1073741824 := by
      rw [hA.out]
      have h1 := (txtV_merge (L.take i)).1
      have h2 : txtV L = txtV (L.take i) + txtV (L.drop i) := by rw [← txtV_append, List.take_append_drop]
      omega
    by_cases hlt : i < L.length
    · obtain ⟨b, off, rfl, hSb, c0, c1, c2, c3, c4⟩ := (hr.below hS hb).atV i hlt
      have hbl := hS b hSb
      have htk : L.take (i + 1) = L.take i ++ [L[i]] := List.take_succ_eq_append_getElem hlt
      have hA2 : Hid (mergeV (L.take (i + 1)) = pushV A L[i]) := by show _ = _; rw [htk, mergeV_snoc, hA.out]
      have hxt := txtV_mem (List.getElem_mem hlt)
      have hkx := hok.out _ (List.getElem_mem hlt)
      clear hA htk
      generalize L[i] = x at *
      obtain ⟨⟨k, n, ats, t, ks⟩, va, vk⟩ := x
      obtain ⟨⟨a1, e1, hva⟩, a2, e2, hvk⟩ := hkx
      simp only [Nd.kind, Nd.name, Nd.text, Nd.attrs, Nd.kids] at c0 c1 c2 c3 c4 hxt hva hvk
      subst hva
      subst hvk
      have hbare : bareV ⟨.mk k n ats t ks, .slice a1 ats.length e1, .slice a2 ks.length e2⟩ = ((k == 2) && t.toList.isEmpty) := rfl
      cases hk : (k == 2)
      · -- no text
        rw [hk] at hbare
        have hp : pushV A ⟨.mk k n ats t ks, .slice a1 ats.length e1, .slice a2 ks.length e2⟩ = A ++ [(⟨.mk k n ats t ks, .slice a1 ats.length e1, .slice a2 ks.length e2⟩ : NV)] := by
          rcases List.eq_nil_or_concat A with rfl | ⟨o, y, rfl⟩
          · exact pushV_nil hbare
          · rw [List.concat_eq_append, pushV_snoc hbare]
            have h3 : M3.isText (.mk k n ats t ks) = false := hk
            rw [h3]; rfl
        rw [hp] at hA2
        clear hp hbare
        go_wp2_with (at_builtin; refine wpList_appK _ [.int .i64 k, .string n, .slice a1 ats.length e1, .string t, .slice a2 ks.length e2] 5 rfl _ _ 22 28 rfl w.heap.size Try.underlying22 infoN rfl (by omega) _ A.length (cellsV A) rfl hown _ rfl rfl rfl (five_one _ _ _ _ _ _ _ _ _) (by omega) (by omega) (by omega) ?_; intro g cp w2 hown2 hgrow2 hat2)
        have hb2 := below_own hb hown hgrow2 hz (Nat.le_refl _)
        have hown3 : w2.ownsRow w.heap.size 28 5 (.slice (some ⟨g, 0, none⟩) (A.length + 1) cp) (A ++ [(⟨.mk k n ats t ks, .slice a1 ats.length e1, .slice a2 ks.length e2⟩ : NV)]).length (cellsV (A ++ [(⟨.mk k n ats t ks, .slice a1 ats.length e1, .slice a2 ks.length e2⟩ : NV)])) := by
          rw [cellsV_snoc]; rw [List.length_append]; exact hown2
        clear hown2 hgrow2 hat2
        go_roundw
        case rel => exact ⟨i + 1, A ++ [(⟨.mk k n ats t ks, .slice a1 ats.length e1, .slice a2 ks.length e2⟩ : NV)], by omega, by go_num, Lib.hid hA2.out.symm, hown3, hb2⟩
        case measure => exact meas_nat hlt
      · obtain rfl : k = 2 := by simpa using hk
        clear hk
        cases hte : t.toList.isEmpty
        · rw [hte] at hbare
          rcases List.eq_nil_or_concat A with rfl | ⟨o, y, rfl⟩
          · rw [pushV_nil hbare] at hA2
            clear hbare
            go_wp2_with (at_builtin; refine wpList_appK _ [.int .i64 2, .string n, .slice a1 ats.length e1, .string t, .slice a2 ks.length e2] 5 rfl _ _ 22 28 rfl w.heap.size Try.underlying22 infoN rfl (by omega) _ 0 (cellsV []) rfl hown _ rfl rfl rfl (five_one _ _ _ _ _ _ _ _ _) (by omega) (by omega) (by omega) ?_; intro g cp w2 hown2 hgrow2 hat2)
            have hb2 := below_own hb hown hgrow2 hz (Nat.le_refl _)
            have hown3 : w2.ownsRow w.heap.size 28 5 (.slice (some ⟨g, 0, none⟩) (0 + 1) cp) ([] ++ [(⟨.mk 2 n ats t ks, .slice a1 ats.length e1, .slice a2 ks.length e2⟩ : NV)]).length (cellsV ([] ++ [(⟨.mk 2 n ats t ks, .slice a1 ats.length e1, .slice a2 ks.length e2⟩ : NV)])) := by
              rw [cellsV_snoc]; exact hown2
            clear hown2 hgrow2 hat2
            go_roundw
            case rel => exact ⟨i + 1, [] ++ [(⟨.mk 2 n ats t ks, .slice a1 ats.length e1, .slice a2 ks.length e2⟩ : NV)], by omega, by go_num, Lib.hid hA2.out.symm, hown3, hb2⟩
            case measure => exact meas_nat hlt
          · rw [List.concat_eq_append] at *
            have hol : (o ++ [y]).length = o.length + 1 := by simp
            rw [hol] at hown hlen hAl
            obtain ⟨g3, cap3, rfl, hg3, hg3l⟩ := hown.form (by omega)
            clear hlen
            obtain ⟨o0, o3, f3⟩ := own_atV hown o.length (by omega)
            rw [List.getElem_append_right (Nat.le_refl _)] at o0 o3
            simp only [Nat.sub_self, List.getElem_cons_zero] at o0 o3
            rw [pushV_snoc hbare] at hA2
            have hyt : y.x.text.size ≤ 1073741824 := by rw [txtV_append, txtV_one] at hAt; omega
            have hi1 : ((o.length : Int) + 1 - 1) = (o.length : Int) := by omega
            have hcp : (cap3 : Int) ≤ 9223372036854775807 ∧ (o.length : Int) < (cap3 : Int) := by
              rcases hown.2 with ⟨h', _⟩ | ⟨g', cap', cur, h', _, _, q1, q2, _⟩
              · cases h'
              · cases h'
                unfold maxLen at q2
                omega
            obtain ⟨hcp1, hcp2⟩ := hcp
            obtain ⟨⟨k2, n2, ats2, t2, ks2⟩, va2, vk2⟩ := y
            simp only [Nd.kind, Nd.text] at o0 o3 hyt
            cases hk2 : (k2 == 2)
            · have h3 : M3.isText (.mk k2 n2 ats2 t2 ks2) = false := hk2
              simp only [h3, Bool.and_false, Bool.false_eq_true, if_false] at hA2
              clear h3 hbare
              go_wp2_with (at_builtin; refine wpList_appK _ [.int .i64 2, .string n, .slice a1 ats.length e1, .string t, .slice a2 ks.length e2] 5 rfl _ _ 22 28 rfl w.heap.size Try.underlying22 infoN rfl (by omega) _ (o.length + 1) (cellsV (o ++ [(⟨.mk k2 n2 ats2 t2 ks2, va2, vk2⟩ : NV)])) rfl hown _ rfl rfl rfl (five_one _ _ _ _ _ _ _ _ _) (by omega) (by omega) (by omega) ?_; intro g cp w2 hown2 hgrow2 hat2)
              have hb2 := below_own hb hown hgrow2 hz (Nat.le_refl _)
              have hown3 : w2.ownsRow w.heap.size 28 5 (.slice (some ⟨g, 0, none⟩) (o.length + 1 + 1) cp) ((o ++ [(⟨.mk k2 n2 ats2 t2 ks2, va2, vk2⟩ : NV)]) ++ [(⟨.mk 2 n ats t ks, .slice a1 ats.length e1, .slice a2 ks.length e2⟩ : NV)]).length (cellsV ((o ++ [(⟨.mk k2 n2 ats2 t2 ks2, va2, vk2⟩ : NV)]) ++ [(⟨.mk 2 n ats t ks, .slice a1 ats.length e1, .slice a2 ks.length e2⟩ : NV)])) := by
                rw [cellsV_snoc, List.length_append, hol]; exact hown2
              clear hown2 hgrow2 hat2
              go_roundw
              case rel => exact ⟨i + 1, (o ++ [(⟨.mk k2 n2 ats2 t2 ks2, va2, vk2⟩ : NV)]) ++ [(⟨.mk 2 n ats t ks, .slice a1 ats.length e1, .slice a2 ks.length e2⟩ : NV)], by omega, by go_num, Lib.hid hA2.out.symm, hown3, hb2⟩
              case measure => exact meas_nat hlt
            · have h3 : M3.isText (.mk k2 n2 ats2 t2 ks2) = true := hk2
              have h4 : M3.isText (.mk 2 n ats t ks) = true := rfl
              simp only [h3, h4, Bool.and_self, if_true] at hA2
              clear h3 h4 hbare
              obtain rfl : k2 = 2 := by simpa using hk2
              go_wp2_with (fail)
              have hq1 : (o.length : Int) < (o.length : Int) + 1 := by omega
              have hq2 : (i : Int) < (L.length : Int) := by omega
              have hq3 : ¬ (9223372036854775807 < t2.size + t.size) := by omega
              go_still_tail 15, (by kernel_rfl)
              change wpList _ _ _ _ _ wr.drew
              go_wp2_with (fail)
              have hst := (hown.stored (o.length * 5 + 3) (.string (t2 ++ t))).1
              have hown3 := own_keep hst (w' := (wr.setCell ⟨g3, o.length * 5 + 3, none⟩ (.string (t2 ++ t))).drew) (fun _ _ => rfl)
              rw [setText_cells _ _ _ _ rfl, ← cat_eq] at hown3
              have hb3 : Below w.heap.size w (wr.setCell ⟨g3, o.length * 5 + 3, none⟩ (.string (t2 ++ t))).drew := (hb.setCell (p := ⟨g3, o.length * 5 + 3, none⟩) hg3 _).drew
              go_roundw
              case rel => exact ⟨i + 1, o ++ [NV.withText (⟨.mk 2 n2 ats2 t2 ks2, va2, vk2⟩ : NV) (M3.cat t2 t)], by omega, by go_num, Lib.hid hA2.out.symm, by rw [List.length_append]; exact hown3, hb3⟩
              case measure => exact meas_nat hlt
        · rw [hte] at hbare
          rw [pushV_bare hbare] at hA2
          go_wp2_with (fail)
          go_roundw
          case rel => exact ⟨i + 1, A, by omega, by go_num, Lib.hid hA2.out.symm, hown, hb⟩
          case measure => exact meas_nat hlt
    · obtain rfl : i = L.length := by omega
      rw [List.take_length] at hA
      go_wp2_with (fail)
      go_ret
      exact ⟨u3, rfl, by rw [← hA.out]; exact hown, hb⟩
end Go.Proofs.Ytjelmpajphajfaa

/- Package dom: nodes without empty texts; the texts that nodes begin with. -/
namespace Go.Proofs.Ytjelmpajphajfaa
open Go.RowKit

def filledV (L : List NV) : List NV := L.filter fun b => !(bareV b)
theorem filledV_snoc (L : List NV) (b : NV) : filledV (L ++ [b]) = if bareV b then filledV L else filledV L ++ [b] := by
  unfold filledV
  rw [List.filter_append]
  cases h : bareV b <;> simp [h]
theorem filledV_map (L : List NV) : (filledV L).map NV.x = M3.filled (L.map NV.x) := by
  unfold filledV M3.filled
  rw [List.filter_map]
  rfl
theorem filledV_len (L : List NV) : (filledV L).length ≤ L.length := List.length_filter_le _ _

set_option maxHeartbeats 4000000 in
set_option maxRecDepth 100000 in
theorem domFilledV (S : Nat → Prop) (v : Value) (L : List NV) (w : World) (hS : ∀ b, S b → b < w.heap.size) (hr : Row S w 5 v L.length (cellsV L)) (hok : ∀ b ∈ L, b.ok) (hl : L.length ≤ 1000000) :
    Calls Try.prog 52 #[v] w (ShPost (filledV L) w) := by
  obtain ⟨a, cap, rfl⟩ := hr.slice
  obtain ⟨_, hlc, hcm⟩ := hr.len
  replace hok := Lib.hid hok
  go_enter Try.func52, Try.ntmps52
  go_wp2_with (fail)
  go_loopw [3, 8] (fun u3 u8 wr => ∃ (i : Nat) (A : List NV), i ≤ L.length ∧ u8 = .int .i64 (i : Int) ∧ Hid (A = filledV (L.take i)) ∧ wr.ownsRow w.heap.size 28 5 u3 A.length (cellsV A) ∧ Below w.heap.size w wr) (fun _ u8 _ => L.length - (intOf u8).toNat)
  case atStart => exact ⟨0, [], by omega, rfl, rfl, World.ownsRow_nil _ _ _ _, Below.refl _ _⟩
  case round =>
    obtain ⟨i, A, hi, rfl, hA, hown, hb⟩ := hrel
    have hz := hb.size
    have hAl : A.length ≤ 1000000 := by rw [hA.out]; have := filledV_len (L.take i); have := List.length_take_le i L; omega
    by_cases hlt : i < L.length
    · obtain ⟨b, off, rfl, hSb, c0, c1, c2, c3, c4⟩ := (hr.below hS hb).atV i hlt
      have hbl := hS b hSb
      have htk : L.take (i + 1) = L.take i ++ [L[i]] := List.take_succ_eq_append_getElem hlt
      have hA2 : Hid (filledV (L.take (i + 1)) = if bareV L[i] then A else A ++ [L[i]]) := by show _ = _; rw [htk, filledV_snoc, hA.out]
      have hkx := hok.out _ (List.getElem_mem hlt)
      clear hA htk
      generalize L[i] = x at *
      obtain ⟨⟨k, n, ats, t, ks⟩, va, vk⟩ := x
      obtain ⟨⟨a1, e1, hva⟩, a2, e2, hvk⟩ := hkx
      simp only [Nd.kind, Nd.name, Nd.text, Nd.attrs, Nd.kids] at c0 c1 c2 c3 c4 hva hvk
      subst hva
      subst hvk
      have hbare : bareV ⟨.mk k n ats t ks, .slice a1 ats.length e1, .slice a2 ks.length e2⟩ = ((k == 2) && t.toList.isEmpty) := rfl
      rw [hbare] at hA2
      clear hbare
      have hbx : Below w.heap.size w (wr.alloc (.cells #[.int .i64 k, .string n, .slice a1 ats.length e1, .string t, .slice a2 ks.length e2] 28)) := hb.alloc hz _
      have hownx := hown.alloc (.cells #[.int .i64 k, .string n, .slice a1 ats.length e1, .string t, .slice a2 ks.length e2] 28)
      have hsx : (wr.alloc (.cells #[.int .i64 k, .string n, .slice a1 ats.length e1, .string t, .slice a2 ks.length e2] 28)).heap.size = wr.heap.size + 1 := by simp
      have hsy : w.heap.size ≤ (wr.alloc (.cells #[.int .i64 k, .string n, .slice a1 ats.length e1, .string t, .slice a2 ks.length e2] 28)).heap.size := by omega
      replace hsx := Lib.hid hsx
      cases hk : (k == 2)
      · have hk2 : (k != 2) = true := by simp [bne, hk]
        rw [hk] at hA2
        simp only [Bool.false_and, Bool.false_eq_true, if_false] at hA2
        go_wp2_with (at_builtin; refine wpList_appK _ [.int .i64 k, .string n, .slice a1 ats.length e1, .string t, .slice a2 ks.length e2] 5 rfl _ _ 22 28 rfl w.heap.size Try.underlying22 infoN rfl (by omega) _ A.length (cellsV A) rfl hownx (wr.heap.size + 1) hsx.out (by rfl) rfl (five_one _ _ _ _ _ _ _ _ _) (by omega) (by omega) hsy ?_; intro g cp w2 hown2 hgrow2 hat2)
        have hb2 := below_own hbx hownx hgrow2 hsy (Nat.le_refl _)
        have hown3 : w2.ownsRow w.heap.size 28 5 (.slice (some ⟨g, 0, none⟩) (A.length + 1) cp) (A ++ [(⟨.mk k n ats t ks, .slice a1 ats.length e1, .slice a2 ks.length e2⟩ : NV)]).length (cellsV (A ++ [(⟨.mk k n ats t ks, .slice a1 ats.length e1, .slice a2 ks.length e2⟩ : NV)])) := by
          rw [cellsV_snoc, List.length_append]; exact hown2
        clear hown2 hgrow2 hat2
        go_roundw
        case rel => exact ⟨i + 1, A ++ [(⟨.mk k n ats t ks, .slice a1 ats.length e1, .slice a2 ks.length e2⟩ : NV)], by omega, by go_num, Lib.hid hA2.out.symm, hown3, hb2⟩
        case measure => exact meas_nat hlt
      · obtain rfl : k = 2 := by simpa using hk
        clear hk
        cases hte : t.toList.isEmpty
        · rw [hte] at hA2
          simp only [Bool.and_false, Bool.false_eq_true, if_false] at hA2
          go_wp2_with (at_builtin; refine wpList_appK _ [.int .i64 2, .string n, .slice a1 ats.length e1, .string t, .slice a2 ks.length e2] 5 rfl _ _ 22 28 rfl w.heap.size Try.underlying22 infoN rfl (by omega) _ A.length (cellsV A) rfl hownx (wr.heap.size + 1) hsx.out (by rfl) rfl (five_one _ _ _ _ _ _ _ _ _) (by omega) (by omega) hsy ?_; intro g cp w2 hown2 hgrow2 hat2)
          have hb2 := below_own hbx hownx hgrow2 hsy (Nat.le_refl _)
          have hown3 : w2.ownsRow w.heap.size 28 5 (.slice (some ⟨g, 0, none⟩) (A.length + 1) cp) (A ++ [(⟨.mk 2 n ats t ks, .slice a1 ats.length e1, .slice a2 ks.length e2⟩ : NV)]).length (cellsV (A ++ [(⟨.mk 2 n ats t ks, .slice a1 ats.length e1, .slice a2 ks.length e2⟩ : NV)])) := by
            rw [cellsV_snoc, List.length_append]; exact hown2
          clear hown2 hgrow2 hat2
          go_roundw
          case rel => exact ⟨i + 1, A ++ [(⟨.mk 2 n ats t ks, .slice a1 ats.length e1, .slice a2 ks.length e2⟩ : NV)], by omega, by go_num, Lib.hid hA2.out.symm, hown3, hb2⟩
          case measure => exact meas_nat hlt
        · rw [hte] at hA2
          simp only [beq_self_eq_true, Bool.and_self, if_true] at hA2
          go_wp2_with (fail)
          go_roundw
          case rel => exact ⟨i + 1, A, by omega, by go_num, Lib.hid hA2.out.symm, hownx, hbx⟩
          case measure => exact meas_nat hlt
    · obtain rfl : i = L.length := by omega
      rw [List.take_length] at hA
      go_wp2_with (fail)
      go_ret
      exact ⟨u3, rfl, by rw [← hA.out]; exact hown, hb⟩
end Go.Proofs.Ytjelmpajphajfaa

/- Package refs' functions: what each call gives, for any text. -/
namespace Go.Proofs.Ytjelmpajphajfaa
open Go.RowKit Go.Maps Go.WideShapes

theorem zero32 (w : World) : (zeroValue 21).run Try.prog w = .ok (.int .i32 0) w := by kernel_rfl

/-! ### The map of names -/
/-- The names' map as it reads. -/
def namesL : List (Lit × DataW Unit) := M2.tbl.map fun p => (.string p.1, .lit (.int .i32 (p.2 : Int)))
def namesD : DataW Unit := rowD namesL (.map [])
theorem namesL_keys : ∀ p ∈ namesL, WideAt.IsKeyLit p.1 := by
  intro p hp
  obtain ⟨q, _, rfl⟩ := List.mem_map.1 hp
  trivial
theorem namesL_apart : namesL.Pairwise (fun p q => p.1 ≠ q.1) := by
  rw [namesL, List.pairwise_map]
  exact M2.tbl_apart.imp (fun h e => h (by simpa using e))
theorem names_has (s : List UInt8) : Maps.has namesD (.string s) = (M2.nm s).isSome := by
  unfold namesD
  rw [rowD_has _ _ _ isMap_empty namesL_keys, has_eq, List.any_nil, Bool.or_false]
  rw [Bool.eq_iff_iff, List.any_eq_true]
  constructor
  · rintro ⟨p, hp, h⟩
    obtain ⟨q, hq, rfl⟩ := List.mem_map.1 hp
    have h := WideAt.sameKey_eq h
    simp only [Lit.string.injEq] at h
    rw [← h, M2.nm_of_mem hq]
    rfl
  · intro h
    obtain ⟨n, hn⟩ := Option.isSome_iff_exists.1 h
    exact ⟨_, List.mem_map.2 ⟨_, M2.nm_mem hn, rfl⟩, WideAt.sameKey_self (by trivial)⟩
theorem names_at (s : List UInt8) : namesD.atKey (.string s) (.lit (.int .i32 0)) = .lit (.int .i32 (((M2.nm s).getD 0 : Nat) : Int)) := by
  cases h : M2.nm s with
  | none =>
    refine atKey_of_not_has ?_ _
    rw [names_has, h]
    rfl
  | some n => exact rowD_at namesL _ _ (.string s, .lit (.int .i32 (n : Int))) isMap_empty namesL_keys namesL_apart (List.mem_map.2 ⟨_, M2.nm_mem h, rfl⟩)
abbrev Names (w : World) (b : Nat) : Prop := w.ownsMap Try.prog 9 (plainElem Try.prog 21) b 15 namesD

/-- 'next' on a text, by lists. -/
theorem nextDec {P : Program} (w : World) (k : Nat) (s : ByteArray) (pos : Nat) (hk : w.heap[k]? = some (.stringIter s pos)) (h : pos < s.size) : ∀ ty,
    (Instr.next (.pointer (some ⟨k, 0, none⟩)) true ty).run P w =
      .ok (.tuple #[.bool true, .int .i64 pos, .int .i32 (M1.dec (s.data.toList.drop pos)).1]) (w.iterAt k s (pos + (M1.dec (s.data.toList.drop pos)).2)) := fun ty => by
  rw [Lib.run_next_any_at w k s pos ty hk h, M1.decode_eq]

/-! ### References -/
/-- What a call answers of a reference. -/
def ans (o : Option (Int × Nat)) : Value := .tuple #[.int .i32 ((o.map (·.1)).getD 0), .int .i64 (((o.map (·.2)).getD 0 : Nat) : Int)]
theorem ans_mk (o : Option (Int × Nat)) : ∃ x y, ans o = .tuple #[.int .i32 x, .int .i64 y] := ⟨_, _, rfl⟩
theorem ans_none : ans none = .tuple #[.int .i32 0, .int .i64 0] := rfl
theorem ans_some (r : Int) (n : Nat) : ans (some (r, n)) = .tuple #[.int .i32 r, .int .i64 (n : Int)] := rfl

theorem hp_of {s : ByteArray} (p : List UInt8) (q : Bool) (h : decide (s.data.toList.take p.length = p) = q) : Lib.hasPrefix s.data.toList p = q := by
  rw [← h, Bool.eq_iff_iff, decide_eq_true_iff, Lib.hasPrefix, List.isPrefixOf_iff_prefix, List.prefix_iff_eq_take]
  exact eq_comm


end Go.Proofs.Ytjelmpajphajfaa

/- Package refs' Decode and Escape: what each call gives, for any text. -/
namespace Go.Proofs.Ytjelmpajphajfaa
open Go.RowKit Go.Maps Go.WideShapes

theorem names_keep {w w' : World} {b B : Nat} (h : Names w b) (hb : Below B w w') (hlt : b < B) : Names w' b := by
  obtain ⟨es, clock, h1, h2⟩ := h
  exact ⟨es, clock, by rw [hb.block b hlt]; exact h1, h2⟩
theorem grown_below {w w' : World} (hb : Below w.heap.size w w') : w.grownBy w' none := ⟨hb.os, hb.tape, hb.output, hb.size, fun k hk _ => hb.block k hk⟩
theorem bldrAt_below {T e : TypeId} {B b : Nat} {p : Value} {bs : List Value} {w w' : World} (h : Lib.BuilderAtF T e B b p bs w) (hb : Below w.heap.size w w') : Lib.BuilderAtF T e B b p bs w' := by
  have hlt := h.lt
  obtain ⟨hB, v, hbk, hown, hne⟩ := h
  refine ⟨hB, v, by rw [hb.block b hlt]; exact hbk, hown.kept (grown_below hb) (by cases v.ownBlock <;> simp), hne⟩
theorem bldr_below {T e : TypeId} {B b : Nat} {bs : List Value} {w w' : World} (h : Lib.IsBuilderF T e B b bs w) (hb : Below w.heap.size w w') : Lib.IsBuilderF T e B b bs w' :=
  h.imp (fun h => bldrAt_below h hb) (fun h => bldrAt_below h hb)
theorem bldr_lt {T e : TypeId} {B b : Nat} {bs : List Value} {w : World} (h : Lib.IsBuilderF T e B b bs w) : b < w.heap.size := by
  rcases h with h | h <;> exact h.lt

/-- How long a text in a slot is. -/
def strSz : Value → Nat
  | .string s => s.size
  | _ => 0

set_option maxHeartbeats 4000000 in
set_option maxRecDepth 100000 in
theorem refsEscape (s : ByteArray) (v : Bool) (w : World) (hs : s.size ≤ 1073741824) :
    Calls Try.prog 86 #[.string s, .bool v] w fun e w' => e = .returned (.string ⟨(M2.escape v s.data.toList).toArray⟩) ∧ Below w.heap.size w w' := by
  go_enter Try.func86, Try.ntmps86
  go_wp2
  go_loopw [10] (fun i wr => ∃ k : Nat, k ≤ s.size ∧ i = .int .i64 k ∧ Lib.IsBuilderF 79 5 w.heap.size w.heap.size (u8s (M2.escape v (s.data.toList.take k))) wr ∧ Below w.heap.size w wr) (fun i _ => s.size - (intOf i).toNat)
  case atStart =>
    exact ⟨0, by omega, rfl, Lib.IsBuilderF.of (Lib.fresh_isBuilder 79 5 w), (Below.refl _ w).alloc (Nat.le_refl _) _⟩
  case round =>
    obtain ⟨k, hk, rfl, hI, hbw⟩ := hrel
    have hle := M2.escape_len v (s.data.toList.take k)
    have hlt1 : (s.data.toList.take k).length ≤ k := List.length_take_le _ _
    have hB := hbw.size
    by_cases hlt : k < s.size
    · have htk : M2.escape v (s.data.toList.take (k + 1)) = M2.escape v (s.data.toList.take k) ++ M2.esc v s[k] := by
        rw [show s.data.toList.take (k + 1) = s.data.toList.take k ++ [s[k]] from List.take_succ_eq_append_getElem (l := s.data.toList) hlt, M2.escape_append]
        simp [M2.escape]
      have fin : ∀ (add : List UInt8) w2, M2.esc v s[k] = add → Lib.BuilderAtF 79 5 w.heap.size w.heap.size (.pointer (some ⟨w.heap.size, 0, none⟩)) (u8s (M2.escape v (s.data.toList.take k)) ++ u8s add) w2 → Below w.heap.size wr w2 →
          ∃ j : Nat, j ≤ s.size ∧ Value.int .i64 ((k : Int) + 1) = .int .i64 j ∧ Lib.IsBuilderF 79 5 w.heap.size w.heap.size (u8s (M2.escape v (s.data.toList.take j))) w2 ∧ Below w.heap.size w w2 := by
        intro add w2 h1 h2 h3
        refine ⟨k + 1, by omega, by go_num, ?_, hbw.trans h3⟩
        rw [htk, u8s_append, h1]
        exact Or.inr h2
      replace fin := Lib.hid fin
      have hWS := fun (x : List UInt8) (h : x.length ≤ 6) => bWriteString w.heap.size w.heap.size (u8s (M2.escape v (s.data.toList.take k))) ⟨x.toArray⟩ wr hI (by rw [u8s_length]; show _ + x.length ≤ _; omega) hB
      have hWB := fun (x : Int) => bWriteByte w.heap.size w.heap.size (u8s (M2.escape v (s.data.toList.take k))) x wr hI (by rw [u8s_length]; omega) hB
      replace hWS := Lib.hid hWS
      replace hWB := Lib.hid hWB
      clear htk hI hle hlt1
      by_cases h38 : s[k] = 38
      · have F := Lib.hid (fin.out [38, 97, 109, 112, 59] · (by rw [h38]; rfl))
        clear fin hWB
        go_wp2_with fail
        refine (hWS.out [38, 97, 109, 112, 59] (by decide)).mono ?_
        rintro e w2 ⟨rfl, hI2, b2, k2⟩
        replace F := Lib.hid (F.out w2 hI2 b2)
        go_wp2
        go_roundw
        case rel => exact F.out
        case measure => simp [intOf]; omega
      have h38b : ((s[k].toNat : Int) == 38) = false := by simp; intro e; exact h38 (UInt8.toNat_inj.1 (by simpa using (by omega : s[k].toNat = 38)))
      by_cases h60 : s[k] = 60
      · have F := Lib.hid (fin.out [38, 108, 116, 59] · (by rw [h60]; rfl))
        clear fin hWB h38
        go_wp2_with fail
        refine (hWS.out [38, 108, 116, 59] (by decide)).mono ?_
        rintro e w2 ⟨rfl, hI2, b2, k2⟩
        replace F := Lib.hid (F.out w2 hI2 b2)
        go_wp2
        go_roundw
        case rel => exact F.out
        case measure => simp [intOf]; omega
      have h60b : ((s[k].toNat : Int) == 60) = false := by simp; intro e; exact h60 (UInt8.toNat_inj.1 (by simpa using (by omega : s[k].toNat = 60)))
      by_cases h62 : s[k] = 62
      · have F := Lib.hid (fin.out [38, 103, 116, 59] · (by rw [h62]; rfl))
        clear fin hWB h38 h60
        go_wp2_with fail
        refine (hWS.out [38, 103, 116, 59] (by decide)).mono ?_
        rintro e w2 ⟨rfl, hI2, b2, k2⟩
        replace F := Lib.hid (F.out w2 hI2 b2)
        go_wp2
        go_roundw
        case rel => exact F.out
        case measure => simp [intOf]; omega
      have h62b : ((s[k].toNat : Int) == 62) = false := by simp; intro e; exact h62 (UInt8.toNat_inj.1 (by simpa using (by omega : s[k].toNat = 62)))
      by_cases h34 : s[k] = 34
      · cases v
        · have F := Lib.hid (fin.out [34] · (by rw [h34]; rfl))
          clear fin hWS h38 h60 h62
          go_wp2_with fail
          refine (hWB.out 34).mono ?_
          rintro e w2 ⟨rfl, hI2, b2, k2⟩
          replace F := Lib.hid (F.out w2 hI2 b2)
          go_wp2
          go_roundw
          case rel => exact F.out
          case measure => simp [intOf]; omega
        · have F := Lib.hid (fin.out [38, 113, 117, 111, 116, 59] · (by rw [h34]; rfl))
          clear fin hWB h38 h60 h62
          go_wp2_with fail
          refine (hWS.out [38, 113, 117, 111, 116, 59] (by decide)).mono ?_
          rintro e w2 ⟨rfl, hI2, b2, k2⟩
          replace F := Lib.hid (F.out w2 hI2 b2)
          go_wp2
          go_roundw
          case rel => exact F.out
          case measure => simp [intOf]; omega
      have h34b : ((s[k].toNat : Int) == 34) = false := by simp; intro e; exact h34 (UInt8.toNat_inj.1 (by simpa using (by omega : s[k].toNat = 34)))
      have F := Lib.hid (fin.out [s[k]] · (by rw [M2.esc, if_neg h38, if_neg h60, if_neg h62, if_neg (fun e => h34 e.1)]))
      clear fin hWS h38 h60 h62 h34
      go_wp2_with fail
      refine (hWB.out (s[k].toNat : Int)).mono ?_
      rintro e w2 ⟨rfl, hI2, b2, k2⟩
      replace F := Lib.hid (F.out w2 hI2 b2)
      go_wp2
      go_roundw
      case rel => exact F.out
      case measure => simp [intOf]; omega
    · go_wp2_with fail
      refine (bString w.heap.size w.heap.size _ _ hI hB).mono ?_
      rintro e W1 ⟨rfl, _, b1, _⟩
      go_wp2
      go_ret
      rw [List.take_of_length_le (show s.data.toList.length ≤ k from by have : s.data.toList.length = s.size := rfl; omega)]
      exact ⟨rfl, hbw.trans b1⟩
end Go.Proofs.Ytjelmpajphajfaa

/- Package dom: the texts that nodes begin with. -/
namespace Go.Proofs.Ytjelmpajphajfaa
open Go.RowKit

/-- The texts of the first k nodes, one behind the other. -/
def catK (l : List Nd) (k : Nat) : List UInt8 := (l.take k).flatMap fun x => x.text.data.toList
theorem catK_zero (l : List Nd) : catK l 0 = [] := by simp [catK]
theorem catK_succ (l : List Nd) (k : Nat) (h : k < l.length) : catK l (k + 1) = catK l k ++ l[k].text.data.toList := by
  unfold catK
  rw [List.take_succ_eq_append_getElem h, List.flatMap_append]
  simp
theorem run_join (l : List Nd) : ∀ k, k ≤ l.length → (∀ i (h : i < l.length), i < k → M3.isText l[i] = true) → (∀ h : k < l.length, M3.isText l[k] = false) → M3.runT l = k ∧ M3.joinT l = ⟨(catK l k).toArray⟩ := by
  induction l with
  | nil => intro k hk _ _; obtain rfl : k = 0 := (by simpa using hk); exact ⟨rfl, rfl⟩
  | cons x r ih =>
    intro k hk h1 h2
    cases k with
    | zero =>
      have hx := h2 (by simp)
      simp only [List.getElem_cons_zero] at hx
      rw [M3.runT_no r hx, M3.joinT_no r hx]
      exact ⟨rfl, rfl⟩
    | succ k =>
      have hx := h1 0 (by simp) (by omega)
      simp only [List.getElem_cons_zero] at hx
      obtain ⟨h3, h4⟩ := ih k (by simpa using hk) (fun i hi hik => by have := h1 (i + 1) (by simpa using hi) (by omega); simpa using this) (fun h => by have := h2 (by simpa using h); simpa using this)
      rw [M3.runT_yes r hx, M3.joinT_yes r hx, h3, h4]
      refine ⟨rfl, ?_⟩
      unfold M3.cat catK
      simp
def txtN (l : List Nd) : Nat := (l.map fun x => x.text.size).sum
theorem txtN_cons (x : Nd) (l : List Nd) : txtN (x :: l) = x.text.size + txtN l := by simp [txtN]
theorem txtN_append (a b : List Nd) : txtN (a ++ b) = txtN a + txtN b := by simp [txtN]
theorem txtN_mem {l : List Nd} {x : Nd} (h : x ∈ l) : x.text.size ≤ txtN l := by
  induction l with
  | nil => cases h
  | cons y r ih =>
    rw [txtN_cons]
    rcases List.mem_cons.1 h with rfl | h
    · omega
    · have := ih h; omega
theorem txtV_map (L : List NV) : txtV L = txtN (L.map NV.x) := by simp [txtV, txtN, Function.comp_def]
theorem catK_len (l : List Nd) (k : Nat) : (catK l k).length ≤ txtN l := by
  have h : ∀ m : List Nd, (m.flatMap fun x => x.text.data.toList).length = txtN m := by
    intro m
    induction m with
    | nil => rfl
    | cons x r ih => rw [List.flatMap_cons, List.length_append, ih, txtN_cons]; rfl
  unfold catK
  rw [h]
  have : txtN l = txtN (l.take k) + txtN (l.drop k) := by rw [← txtN_append, List.take_append_drop]
  omega
def JoinPost (l : List Nd) (w : World) (e : Ending) (w' : World) : Prop := e = .returned (.tuple #[.string (M3.joinT l), .int .i64 (M3.runT l : Int)]) ∧ Below w.heap.size w w'

set_option maxHeartbeats 4000000 in
set_option maxRecDepth 100000 in
theorem domJoined (S : Nat → Prop) (v : Value) (l : List Nd) (w : World) (hS : ∀ b, S b → b < w.heap.size) (hr : RepN S w v l) (hl : l.length ≤ 1000000) (ht : txtN l ≤ 1073741824) :
    Calls Try.prog 53 #[v] w (JoinPost l w) := by
  obtain ⟨a, cap, rfl⟩ := hr.slice
  obtain ⟨_, hlc, hcm⟩ := hr.len
  go_enter Try.func53, Try.ntmps53
  go_wp2_with (fail)
  go_loopw [9] (fun u9 wr => ∃ k : Nat, k ≤ l.length ∧ u9 = .int .i64 k ∧ Hid (∀ i (h : i < l.length), i < k → M3.isText l[i] = true) ∧ Lib.IsBuilderF 79 5 w.heap.size w.heap.size (u8s (catK l k)) wr ∧ Below w.heap.size w wr) (fun u9 _ => l.length - (intOf u9).toNat)
  case atStart => exact ⟨0, by omega, rfl, Lib.hid (fun i _ h => absurd h (by omega)), by rw [catK_zero]; exact Lib.IsBuilderF.of (Lib.fresh_isBuilder 79 5 w), (Below.refl _ w).alloc (Nat.le_refl _) _⟩
  case round =>
    obtain ⟨k, hk, rfl, hall, hI, hb⟩ := hrel
    have hz := hb.size
    have hck := catK_len l k
    by_cases hlt : k < l.length
    · obtain ⟨b, off, va, vk, rfl, hSb, c0, c1, c2, c3, c4, hrv⟩ := (hr.below hS hb).at_ k hlt
      have hcs := catK_succ l k hlt
      have hxt := txtN_mem (List.getElem_mem hlt)
      have hrj := fun (h2 : M3.isText l[k] = false) => run_join l k hk hall.out (fun _ => h2)
      have hnx := fun (h2 : M3.isText l[k] = true) i (h : i < l.length) (hi : i < k + 1) => show M3.isText l[i] = true from if e : i = k then by subst e; exact h2 else hall.out i h (by omega)
      replace hrj := Lib.hid hrj
      replace hnx := Lib.hid hnx
      generalize l[k] = x at *
      obtain ⟨a1, e1, rfl⟩ := hrv.at_.slice
      obtain ⟨a2, e2, rfl⟩ := hrv.kids.slice
      have hbx : Below wr.heap.size wr (wr.alloc (.cells (x.cells (.slice a1 x.attrs.length e1) (.slice a2 x.kids.length e2)).toArray 28)) := (Below.refl _ _).alloc (Nat.le_refl _) _
      have hIx := bldr_below hI hbx
      have hbw := hb.alloc hz (.cells (x.cells (.slice a1 x.attrs.length e1) (.slice a2 x.kids.length e2)).toArray 28)
      have hsz : w.heap.size ≤ (wr.alloc (.cells (x.cells (.slice a1 x.attrs.length e1) (.slice a2 x.kids.length e2)).toArray 28)).heap.size := by simp; omega
      have hBS := Lib.hid (bString w.heap.size w.heap.size _ _ hIx hsz)
      have hWS := Lib.hid (bWriteString w.heap.size w.heap.size (u8s (catK l k)) x.text _ hIx (by rw [u8s_length]; omega) hsz)
      clear hI hIx hck hrv
      replace hcs := Lib.hid hcs
      cases x with | mk kd n ats t ks =>
      simp only [Nd.kind, Nd.name, Nd.text, Nd.attrs, Nd.kids, Nd.cells] at *
      cases hkd : (kd == 2)
      · obtain ⟨q1, q2⟩ := hrj.out hkd
        replace q1 := Lib.hid q1
        replace q2 := Lib.hid q2
        have hkd2 : (kd != 2) = true := by simp [bne, hkd]
        clear hrj hnx hWS hcs
        go_wp2_with (fail)
        refine hBS.out.mono ?_
        rintro e w1 ⟨rfl, _, hb1, _⟩
        go_wp2_with (fail)
        go_ret2
        exact ⟨by rw [q1.out, q2.out]; rfl, hbw.trans hb1⟩
      · have hn2 := Lib.hid (hnx.out hkd)
        have hkd2 : (kd != 2) = false := by simp [bne, hkd]
        clear hrj hnx hBS
        go_wp2_with (fail)
        refine hWS.out.mono ?_
        rintro e w1 ⟨rfl, hI1, hb1, _⟩
        have hI2 : Lib.IsBuilderF 79 5 w.heap.size w.heap.size (u8s (catK l (k + 1))) w1 := by rw [hcs.out, u8s_append]; exact Or.inr hI1
        clear hI1
        go_wp2_with (fail)
        go_roundw
        case rel => exact ⟨k + 1, by omega, by go_num, hn2, hI2, hbw.trans hb1⟩
        case measure => exact meas_nat hlt
    · obtain ⟨q1, q2⟩ := run_join l k hk hall.out (fun h => absurd h hlt)
      obtain rfl : k = l.length := by omega
      replace q1 := Lib.hid q1
      replace q2 := Lib.hid q2
      have hBS := Lib.hid (bString w.heap.size w.heap.size _ _ hI hz)
      clear hI hall
      go_wp2_with (fail)
      refine hBS.out.mono ?_
      rintro e w1 ⟨rfl, _, hb1, _⟩
      go_wp2_with (fail)
      go_ret2
      exact ⟨by rw [q1.out, q2.out]; rfl, hb.trans hb1⟩
end Go.Proofs.Ytjelmpajphajfaa
