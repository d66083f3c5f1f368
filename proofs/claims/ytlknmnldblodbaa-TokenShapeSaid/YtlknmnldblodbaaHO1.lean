/- Texts joined: Dom6, Dom7, Lives3, Cut, Open3, Clone, Clone2, Math3m, Shal, Ref03m, DomM, DomM2, Clone3, DomM3, Ref03f, DomM4, Same, Same2, Same3, Ref03s, Small3, Law03m, Ref03y, Ref03z, Law03g, Ref03x, Math3g. -/
import Derived.Deep.RegionHeld3
import Derived.Deep.AppendLies
import Derived.ChangeArms
import Derived.DataReads
import Derived.ChangeOld
import Derived.Laws.MakeOwn
import Derived.Laws.Entries
import Derived.StillTailTactics
import Derived.Test.YtlknmnldblodbaaH1
import Derived.Test.YtlknmnldblodbaaH2
import Derived.Test.YtlknmnldblodbaaH3
import Derived.Test.YtlknmnldblodbaaH4
import Derived.Test.YtlknmnldblodbaaH5
import Derived.Test.YtlknmnldblodbaaH6
import Derived.Test.YtlknmnldblodbaaHMath5g
import Derived.Test.YtlknmnldblodbaaHWr2
import Derived.Test.YtlknmnldblodbaaHRef04
import Derived.Test.YtlknmnldblodbaaHLaw05c
import Derived.Test.YtlknmnldblodbaaHMath5h
import Derived.Test.YtlknmnldblodbaaHLaw05b
/- Package dom: what nodes weigh, whether they may be. -/
namespace Go.Proofs.Ytlknmnldblodbaa
open Go.RowKit Go.Shelf

attribute [local go_sem] Oper.semAt_some

def sumZ (L : List Nd) : Int := L.foldl (fun s x => wrap64 (s + wrap64 (1 + (x.attrs.length : Int)))) 0
theorem sumZ_snoc (L : List Nd) (x : Nd) : sumZ (L ++ [x]) = wrap64 (sumZ L + wrap64 (1 + (x.attrs.length : Int))) := by simp [sumZ]
theorem sumZ_from (L : List Nd) : ∀ (s : Int), 0 ≤ s → s + ((L.map fun x => 1 + x.attrs.length).sum : Nat) ≤ 4611686018427387904 → L.foldl (fun s x => wrap64 (s + wrap64 (1 + (x.attrs.length : Int)))) s = s + ((L.map fun x => 1 + x.attrs.length).sum : Nat) := by
  induction L with
  | nil => intro s _ _; simp
  | cons x r ih =>
    intro s h0 h
    rw [List.map_cons, List.sum_cons] at h ⊢
    rw [List.foldl_cons, IntWalk.wrap64_in (1 + (x.attrs.length : Int)) (by omega), IntWalk.wrap64_in _ (by omega), ih _ (by omega) (by omega)]
    omega
theorem sumZ_eq (L : List Nd) (h : (L.map fun x => 1 + x.attrs.length).sum ≤ 4611686018427387904) : sumZ L = ((L.map fun x => 1 + x.attrs.length).sum : Nat) := by
  have := sumZ_from L 0 (Int.le_refl _) (by omega)
  rw [Int.zero_add] at this
  exact this
theorem kf_of_below {B : Nat} {W W' : World} (h : Below W.heap.size W W') : KeepsFrom B W W' := ⟨h.size, fun k _ _ hk _ => (h.block k (Array.getElem?_eq_some_iff.1 hk).1).trans hk⟩
theorem Tells.nds {S : Nat → Prop} {w0 : World} {l : List Nd} {T : List (It S w0)} (h : T.map It.pair = M3.seqN 0 l) : T.map It.x = M3.all l := by
  rw [← M3.all_eq 0 l, ← h, List.map_map]; rfl

theorem ownFrom_size {β : Type} (B k : Nat) : OwnFrom B (fun (_ : β) W => k ≤ W.heap.size) := fun _ _ _ _ hs hg _ => Nat.le_trans hs hg.size
theorem box_own {X Y : World} {row : Option Nat} {g : Nat} {t : TypeId} {cs : List Value} (h : Box X g t cs) (hg : X.grownBy Y row) (hr : ∀ r, row = some r → ∃ o : Obj, X.heap[r]? = some o ∧ o.isCells = false) : Box Y g t cs :=
  h.keep (hg.block g h.lt (fun e => by obtain ⟨o, ho, hc⟩ := hr g e.symm; rw [show X.heap[g]? = _ from h] at ho; cases ho; cases hc))
theorem kp5_set {n₀ n₁ g : Nat} (W : World) (u : Value) (h0 : n₀ ≤ g) (h1 : g < n₁) : Kp5 n₀ n₁ W (W.setCell ⟨g, 0, none⟩ u) :=
  ⟨(Below.refl _ _).setCell (p := ⟨g, 0, none⟩) h0 _, fun b _ _ hb _ h => (Below.heap_setCell W ⟨g, 0, none⟩ u b (fun e => by simp at e; omega)).trans h⟩
theorem It.shapes {S : Nat → Prop} {w0 : World} (x : It S w0) : (∃ a c, x.va = .slice a x.x.attrs.length c) ∧ ∃ a c, x.vk = .slice a x.x.kids.length c := ⟨x.rep.at_.slice, x.rep.kids.slice⟩


end Go.Proofs.Ytlknmnldblodbaa

/- Package dom: whether nodes may be. -/
namespace Go.Proofs.Ytlknmnldblodbaa
open Go.RowKit Go.Shelf

attribute [local go_sem] Oper.semAt_some

theorem firstE_prefix {a b : List (Nd × Int)} (h : a <+: b) (hn : M3.firstE a ≠ 0) : M3.firstE b = M3.firstE a := by
  obtain ⟨c, rfl⟩ := h
  rw [M3.firstE_append, if_pos hn]
theorem firstE_snoc (a : List (Nd × Int)) (p : Nd × Int) (h : M3.firstE a = 0) : M3.firstE (a ++ [p]) = M3.oneE p.1 (p.2 == 2) := by
  rw [M3.firstE_append, if_neg (by simpa using h), M3.firstE, M3.firstE]
  split
  · rfl
  · rename_i h; simp at h; exact h.symm


end Go.Proofs.Ytlknmnldblodbaa

/- Layer 3's own example at the end of each law. -/
namespace Go.Proofs.Ytlknmnldblodbaa
open Go.RowKit

/-- The example's nodes. -/
def liveT : Nd := .mk 2 ⟨#[]⟩ [] ⟨#[120]⟩ []
def liveN : Nd := .mk 1 ⟨#[97]⟩ [⟨⟨#[105, 100]⟩, ⟨#[49]⟩⟩] ⟨#[]⟩ [liveT]
theorem live_fit : FitN [liveN] := by
  have h1 : M3.weight liveT.kids = 0 := by show M3.weight [] = 0; rw [M3.weight_nil]
  have h2 : M3.weight liveN.kids = 1 := by show M3.weight [liveT] = 1; rw [M3.weight_cons, h1, M3.weight_nil]; rfl
  refine fitN_cons.2 ⟨⟨by decide, by decide, ?_, by rw [h2]; decide⟩, fitN_cons.2 ⟨⟨by decide, by decide, ?_, by rw [h1]; decide⟩, fitN_nil, fitN_nil⟩, fitN_nil⟩
  · intro a ha; simp [liveN, Nd.attrs] at ha; subst ha; exact ⟨by decide, by decide⟩
  · intro a ha; simp [liveT, Nd.attrs] at ha
theorem live_weight : M3.weight [liveN] = 3 := by
  rw [M3.weight_cons, M3.weight_nil]
  show 1 + 1 + M3.weight [liveT] + 0 = 3
  rw [M3.weight_cons, M3.weight_nil]
  show 1 + 1 + (1 + 0 + M3.weight [] + 0) + 0 = 3
  rw [M3.weight_nil]
theorem isB_low (c : UInt8) (t : List UInt8) (h : c.toNat < 128) (h0 : c.toNat ≠ 0) (h13 : c.toNat ≠ 13) : M1.isB (c :: t) = M1.isB t := by
  rw [M1.isB_step _ (by simp), M2.dec_lo c t h]
  have h3 : c.toNat ≠ 65533 := by omega
  simp [h0, h13, h3]
theorem nilB_data (s : ByteArray) : M3.nilB s = s.data.toList.isEmpty := by unfold M3.nilB; rw [Lib.toList_data]
theorem mayE_ok {p : Bool} {x : Nd} {r : List Nd} (h1 : M3.oneE x p = 0) (h2 : M3.mayE false x.kids = 0) (h3 : M3.mayE (x.kind == 2) r = 0) : M3.mayE p (x :: r) = 0 := by
  rw [M3.mayE_cons]
  simp [h1, h2, h3]
theorem live_may : M3.mayE false [liveN] = 0 := by
  have e1 : M1.isB [120] = true := by rw [isB_low _ _ (by decide) (by decide) (by decide), M1.isB_nil]
  have e2 : M1.isB [105, 100] = true := by rw [isB_low _ _ (by decide) (by decide) (by decide), isB_low _ _ (by decide) (by decide) (by decide), M1.isB_nil]
  have e3 : M1.isB [49] = true := by rw [isB_low _ _ (by decide) (by decide) (by decide), M1.isB_nil]
  have t1 : M3.oneE liveT false = 0 := by
    show M3.oneE (.mk 2 ⟨#[]⟩ [] ⟨#[120]⟩ []) false = 0
    rw [M3.oneE_mk]
    have : M1.isB (⟨#[120]⟩ : ByteArray).data.toList = true := e1
    unfold M3.oneF M3.kindlyF M3.plainF
    rw [this, nilB_data, nilB_data]
    decide
  have a1 : M3.attributedB [105, 100] = true := by
    unfold M3.attributedB
    rw [e2]
    decide
  have n1 : M3.namesE [] [⟨⟨#[105, 100]⟩, ⟨#[49]⟩⟩] = 0 := by
    rw [M3.namesE]
    have : M3.attributedB (⟨#[105, 100]⟩ : ByteArray).data.toList = true := a1
    rw [this]
    rfl
  have v1 : M3.valuesE [⟨⟨#[105, 100]⟩, ⟨#[49]⟩⟩] = 0 := by
    rw [M3.valuesE]
    have : M1.isB (⟨#[49]⟩ : ByteArray).data.toList = true := e3
    rw [this]
    rfl
  have t2 : M3.oneE liveN false = 0 := by
    show M3.oneE (.mk 1 ⟨#[97]⟩ [⟨⟨#[105, 100]⟩, ⟨#[49]⟩⟩] ⟨#[]⟩ [liveT]) false = 0
    rw [M3.oneE_mk]
    unfold M3.oneF M3.elemF M3.kindlyF
    rw [n1, v1, nilB_data]
    rfl
  exact mayE_ok t2 (mayE_ok t1 (M3.mayE_nil _) (M3.mayE_nil _)) (M3.mayE_nil _)

theorem Row.fresh {S : Nat → Prop} {w : World} {g : Nat} {e : TypeId} {cs : List Value} {k n : Nat} (h : Box w g e cs) (hS : S g) (hn : cs.length = n * k) (hl : n ≤ 1000000) : Row S w k (.slice (some ⟨g, 0, none⟩) n n) n cs :=
  ⟨hn, _, n, rfl, Nat.le_refl _, by omega, (fun h => by cases h), fun _ => ⟨g, 0, rfl, hS, fun j u hu => by rw [Nat.zero_add]; exact h.cell hu⟩⟩


end Go.Proofs.Ytlknmnldblodbaa

/- The reference's cut: nodes, few of all. -/
namespace Go.Proofs.Ytlknmnldblodbaa
open Go.RowKit

theorem infoA : (Try.prog.info? 44).map (fun i => (i.zero, i.size, i.bytes)) = some (some (.agg #[.string ⟨#[]⟩, .string ⟨#[]⟩]), 2, 32) := by kernel_rfl
theorem infoN : (Try.prog.info? 40).map (fun i => (i.zero, i.size, i.bytes)) = some (some (.agg #[.int .i64 0, .string ⟨#[]⟩, .slice none 0 0, .string ⟨#[]⟩, .slice none 0 0]), 5, 88) := by kernel_rfl

set_option maxHeartbeats 1000000 in
theorem ref03few (s : ByteArray) (w : World) (hs : s.size ≤ 9223372036854775807) : Calls Try.prog 97 #[.string s] w fun e w' => e = .returned (.string (M3.few s)) ∧ w = w' := by
  unfold M3.few
  by_cases h : 30 < s.size
  · rw [if_pos h]
    go_enter Try.func97, Try.ntmps97
    go_wp2
    go_ret
    exact ⟨rfl, rfl⟩
  · rw [if_neg h]
    go_enter Try.func97, Try.ntmps97
    go_wp2
    go_ret
    exact ⟨rfl, rfl⟩

/-- All texts are shorter than any that there can be. -/
def SzN : List Nd → Prop
  | [] => True
  | .mk _ n a t ks :: r => (n.size ≤ 9223372036854775807 ∧ t.size ≤ 9223372036854775807 ∧ ∀ x ∈ a, x.name.size ≤ 9223372036854775807 ∧ x.value.size ≤ 9223372036854775807) ∧ SzN ks ∧ SzN r
termination_by l => SizeOf.sizeOf l
def Sz1 (x : Nd) : Prop := x.name.size ≤ 9223372036854775807 ∧ x.text.size ≤ 9223372036854775807 ∧ ∀ a ∈ x.attrs, a.name.size ≤ 9223372036854775807 ∧ a.value.size ≤ 9223372036854775807
theorem szN_cons {x : Nd} {r : List Nd} : SzN (x :: r) ↔ Sz1 x ∧ SzN x.kids ∧ SzN r := by cases x; rw [SzN]; rfl
theorem szN_mem {x : Nd} {l : List Nd} (h : SzN l) (hx : x ∈ l) : Sz1 x ∧ SzN x.kids := by
  induction l with
  | nil => cases hx
  | cons y r ih =>
    obtain ⟨h1, h2, h3⟩ := szN_cons.1 h
    rcases List.mem_cons.1 hx with rfl | hx
    · exact ⟨h1, h2⟩
    · exact ih h3 hx

/-- What a call hands back that it has made: a row of its own, from B on, and what stands in it. -/
def Made (w' : World) (B : Nat) (v : Value) (l : List Nd) : Prop := ∃ zs, w'.ownsRow B 40 5 v l.length zs ∧ RepC (fun b => B ≤ b ∧ b < w'.heap.size ∧ v.ownBlock ≠ some b) w' zs l
theorem Made.rep {w' : World} {B : Nat} {v : Value} {l : List Nd} (h : Made w' B v l) : RepN (fun b => B ≤ b ∧ b < w'.heap.size) w' v l := by
  obtain ⟨zs, h1, h2⟩ := h
  exact ⟨zs, Row.own h1 (fun g hg => h1.lt g hg), RepC.mono (fun b hb => ⟨hb.1, hb.2.1⟩) _ _ h2⟩
def CutPost (l : List Nd) (m : Nat) (w : World) (e : Ending) (w' : World) : Prop := ∃ v', e = .returned (.tuple #[v', .int .i64 ((M3.cut l m).2 : Int)]) ∧ Made w' w.heap.size v' (M3.cut l m).1 ∧ Below w.heap.size w w'

theorem cells_one {x : Nd} {a1 a2 : Option Addr} {n1 c1 n2 c2 : Nat} : ∀ u ∈ x.cells (.slice a1 n1 c1) (.slice a2 n2 c2), u.oneCell' = true := by
  intro u hu
  simp at hu
  rcases hu with rfl | rfl | rfl | rfl | rfl <;> rfl

/-- 'append(out, x)' behind nodes that the call has made. -/
theorem Made.snoc {W w5 : World} {B g : Nat} {u : Value} {A : List Nd} {zs : List Value} {x : Nd} {va vk : Value} {cap n : Nat} {SA SX : Nat → Prop} (hn : n = A.length + 1)
    (hown5 : w5.ownsRow B 40 5 (.slice (some ⟨g, 0, none⟩) n cap) n (zs ++ x.cells va vk)) (hgrow : W.grownBy w5 u.ownBlock) (hat : u.ownBlock = some g ∨ W.heap.size ≤ g)
    (hA : RepC SA W zs A) (hSA : ∀ b, SA b → B ≤ b ∧ b < W.heap.size ∧ u.ownBlock ≠ some b)
    (hx : RepV SX W x va vk) (hSX : ∀ b, SX b → B ≤ b ∧ b < W.heap.size ∧ u.ownBlock ≠ some b) : Made w5 B (.slice (some ⟨g, 0, none⟩) n cap) (A ++ [x]) := by
  subst hn
  have hk : ∀ b, (B ≤ b ∧ b < W.heap.size ∧ u.ownBlock ≠ some b) → w5.heap[b]? = W.heap[b]? := fun b h => hgrow.block b h.2.1 (fun e => h.2.2 e.symm)
  have hm : ∀ b, (B ≤ b ∧ b < W.heap.size ∧ u.ownBlock ≠ some b) → B ≤ b ∧ b < w5.heap.size ∧ (Value.slice (some ⟨g, 0, none⟩) (A.length + 1) cap).ownBlock ≠ some b := fun b h => ⟨h.1, Nat.lt_of_lt_of_le h.2.1 hgrow.size, fun e => by
    simp [Value.ownBlock] at e
    subst e
    rcases hat with h1 | h1
    · exact h.2.2 h1
    · omega⟩
  refine ⟨zs ++ x.cells va vk, by simpa using hown5, RepC.append (RepC.single ((hx.keep fun b h => hk b (hSX b h)).mono fun b h => hm b (hSX b h))) _ _ ?_⟩
  exact RepC.mono (fun b h => hm b (hSA b h)) _ _ (RepC.keep (fun b h => hk b (hSA b h)) _ _ hA)
theorem own_slice {w : World} {B : Nat} {e : TypeId} {k n : Nat} {v : Value} {xs : List Value} (h : w.ownsRow B e k v n xs) : ∃ a c, v = .slice a n c := by
  rcases h.2 with ⟨rfl, rfl⟩ | ⟨g, cap, _, rfl, _⟩
  · exact ⟨_, _, rfl⟩
  · exact ⟨_, _, rfl⟩
theorem own_keep {w w' : World} {B : Nat} {e : TypeId} {k n : Nat} {v : Value} {xs : List Value} (h : w.ownsRow B e k v n xs) (hk : ∀ g, v.ownBlock = some g → w'.heap[g]? = w.heap[g]?) : w'.ownsRow B e k v n xs := by
  refine ⟨h.1, ?_⟩
  rcases h.2 with hn | ⟨g, cap, cur, rfl, hb, hg, rest⟩
  · exact .inl hn
  · exact .inr ⟨g, cap, cur, rfl, hb, (hk g rfl).trans hg, rest⟩
theorem own_base {w : World} {B B' : Nat} {e : TypeId} {k n : Nat} {v : Value} {xs : List Value} (h : w.ownsRow B e k v n xs) (hb : ∀ g, v.ownBlock = some g → B' ≤ g) : w.ownsRow B' e k v n xs := by
  refine ⟨h.1, ?_⟩
  rcases h.2 with hn | ⟨g, cap, cur, rfl, _, rest⟩
  · exact .inl hn
  · exact .inr ⟨g, cap, cur, rfl, hb g rfl, rest⟩

set_option maxHeartbeats 8000000 in
set_option maxRecDepth 100000 in
theorem ref03Cut (m : Nat) : ∀ (S : Nat → Prop) (v : Value) (l : List Nd) (w : World), (∀ b, S b → b < w.heap.size) → RepN S w v l → SzN l → m ≤ 1000 →
    Calls Try.prog 76 #[v, .int .i64 (m : Int)] w (CutPost l m w) := by
  induction m using Nat.strongRecOn with
  | ind m ih =>
    intro S v l w hS hr hsz hm
    obtain ⟨a, cap, rfl⟩ := hr.slice
    obtain ⟨_, hlc, hcm⟩ := hr.len
    go_enter Try.func76, Try.ntmps76
    go_wp2_with (fail)
    go_loopw [1, 6, 7] (fun u1 u6 u7 wr => ∃ (i mi : Nat) (A : List Nd), i ≤ l.length ∧ u7 = .int .i64 (i : Int) ∧ u1 = .int .i64 (mi : Int) ∧ A.length + mi ≤ m ∧ Made wr w.heap.size u6 A ∧ Below w.heap.size w wr ∧ Hid ((M3.cut l m).1 = A ++ (M3.cut (l.drop i) mi).1 ∧ (M3.cut l m).2 = (M3.cut (l.drop i) mi).2)) (fun _ _ u7 _ => l.length - (intOf u7).toNat)
    case atStart => exact ⟨0, m, [], by omega, rfl, rfl, by simp, ⟨[], World.ownsRow_nil _ _ _ _, RepC.nil _ _⟩, Below.refl _ _, rfl, rfl⟩
    case round =>
      obtain ⟨i, mi, A, hi, rfl, rfl, hAm, ⟨zs, hown, hrepA⟩, hb, hc⟩ := hrel
      obtain ⟨wo, rfl⟩ : ∃ wo : World, wo = wr := ⟨_, rfl⟩
      have hz := hb.size
      by_cases hlt : i < l.length
      · by_cases hmi : 0 < mi
        · obtain ⟨mj, rfl⟩ : ∃ mj, mi = mj + 1 := ⟨mi - 1, by omega⟩
          obtain ⟨b, off, va, vk, rfl, hSb, c0, c1, c2, c3, c4, hrv⟩ := (hr.below hS hb).at_ i hlt
          have hbl := hS b hSb
          have hdr : l.drop i = l[i] :: l.drop (i + 1) := List.drop_eq_getElem_cons hlt
          rw [hdr, M3.cut_cons] at hc
          obtain ⟨hs1, hs2⟩ := szN_mem hsz (List.getElem_mem hlt)
          clear hdr
          generalize l[i] = x at *
          obtain ⟨hat, hkd⟩ := hrv
          obtain ⟨a1, cap1, rfl⟩ := hat.slice
          obtain ⟨_, hlc1, hcm1⟩ := hat.len
          obtain ⟨a2, cap2, rfl⟩ := hkd.slice
          have hx0 := Box.new wo 40 (x.cells (.slice a1 x.attrs.length cap1) (.slice a2 x.kids.length cap2))
          have hz1 : wo.heap.size < (wo.alloc (.cells (x.cells (.slice a1 x.attrs.length cap1) (.slice a2 x.kids.length cap2)).toArray 40)).heap.size := by simp
          have hbz : Below wo.heap.size wo (wo.alloc (.cells (x.cells (.slice a1 x.attrs.length cap1) (.slice a2 x.kids.length cap2)).toArray 40)) := (Below.refl _ _).alloc (Nat.le_refl _) _
          have hfn := Lib.hid (fun W => ref03few x.name W hs1.1)
          have hft := Lib.hid (fun W => ref03few x.text W hs1.2.1)
          have hihk := fun W h1 h2 => ih mj (by omega) S (.slice a2 x.kids.length cap2) x.kids W h1 h2 hs2 (by omega)
          replace hihk := Lib.hid hihk
          go_wp2_with (fail)
          refine (hfn.out _).mono ?_
          rintro e w1 ⟨rfl, rfl⟩
          go_wp2_with (fail)
          refine (hft.out _).mono ?_
          rintro e w1 ⟨rfl, rfl⟩
          go_wp2_with (fail)
          have bx1 := Box.new wo 40 [.int .i64 x.kind, .string (M3.few x.name), .slice a1 x.attrs.length cap1, .string (M3.few x.text), .slice a2 x.kids.length cap2]
          have hbz1 : Below wo.heap.size wo (wo.alloc (.cells #[.int .i64 x.kind, .string (M3.few x.name), .slice a1 x.attrs.length cap1, .string (M3.few x.text), .slice a2 x.kids.length cap2] 40)) := (Below.refl _ _).alloc (Nat.le_refl _) _
          have hsz1 : (wo.alloc (.cells #[.int .i64 x.kind, .string (M3.few x.name), .slice a1 x.attrs.length cap1, .string (M3.few x.text), .slice a2 x.kids.length cap2] 40)).heap.size = wo.heap.size + 1 := by simp
          change Box (wo.alloc (.cells #[.int .i64 x.kind, .string (M3.few x.name), .slice a1 x.attrs.length cap1, .string (M3.few x.text), .slice a2 x.kids.length cap2] 40)) _ _ _ at bx1
          clear hx0 hz1 hbz hfn hft c0 c1 c2 c3 c4
          obtain ⟨W1, hW1⟩ : ∃ W1, wo.alloc (.cells #[.int .i64 x.kind, .string (M3.few x.name), .slice a1 x.attrs.length cap1, .string (M3.few x.text), .slice a2 x.kids.length cap2] 40) = W1 := ⟨_, rfl⟩
          rw [hW1] at bx1 hbz1 hsz1 ⊢
          clear hW1
          refine (hihk.out W1 (fun b h => by have := hS b h; omega) (hkd.keep fun b h => hbz1.block b (by have := hS b h; omega))).mono ?_
          rintro e w2 ⟨v2, rfl, ⟨zs2, hown2, hrep2⟩, hb2⟩
          obtain ⟨a3, cap3, rfl⟩ := own_slice hown2
          have hle2 := M3.cut_le x.kids mj
          have hz2 := hb2.size
          have bx2 := bx1.below hb2 (by omega)
          have d2 := bx2.cell (i := 2) rfl
          have d4 := bx2.cell (i := 4) rfl
          have f4 := bx2.free 4
          have hbr2 : Below wo.heap.size wo w2 := hbz1.trans (hb2.mono (by omega))
          clear hihk bx1
          replace hsz1 := Lib.hid hsz1
          generalize hkc : (M3.cut x.kids mj).1 = ks' at *
          generalize hmc : (M3.cut x.kids mj).2 = m2 at *
          replace hkc := Lib.hid hkc
          replace hmc := Lib.hid hmc
          go_wp2_with (fail)
          have bx3 := bx2.set 4 (.slice a3 ks'.length cap3)
          have hbr3 : Below wo.heap.size wo (w2.setCell ⟨wo.heap.size, 4, none⟩ (.slice a3 ks'.length cap3)) := hbr2.setCell (p := ⟨wo.heap.size, 4, none⟩) (Nat.le_refl _) _
          have hne2 : ∀ b, W1.heap.size ≤ b → (w2.setCell ⟨wo.heap.size, 4, none⟩ (.slice a3 ks'.length cap3)).heap[b]? = w2.heap[b]? := fun b h => Below.heap_setCell _ _ _ _ (by have := hsz1.out; simp; omega)
          have hz3 : (w2.setCell ⟨wo.heap.size, 4, none⟩ (.slice a3 ks'.length cap3)).heap.size = w2.heap.size := by simp [World.setCell]
          have hown3 := own_keep hown2 (fun g hg => hne2 g (hown2.lt g hg).1)
          have hrep3 := RepC.keep (fun b hb => hne2 b hb.1) _ _ hrep2
          simp only [List.set_cons_succ, List.set_cons_zero] at bx3
          obtain ⟨W2, hW2⟩ : ∃ W2, w2.setCell ⟨wo.heap.size, 4, none⟩ (.slice a3 ks'.length cap3) = W2 := ⟨_, rfl⟩
          rw [hW2] at bx3 hbr3 hz3 hown3 hrep3 ⊢
          clear hW2 hne2 d2 d4 f4 bx2 hown2 hrep2 hbr2
          have hgl := bx3.lt
          obtain ⟨i0, hi0, hz00, hz01, hz02⟩ := info_parts infoA
          replace hkd := Lib.hid hkd
          replace hrep3 := Lib.hid hrep3
          replace hown3 := Lib.hid hown3
          replace hrepA := Lib.hid hrepA
          replace hown := Lib.hid hown
          have hSz2 : ∀ b, S b → b < W2.heap.size := fun b h => by have := hS b h; omega
          go_loopw [9, 10] (fun u9 u10 wr => ∃ k : Nat, k ≤ 5 ∧ k ≤ x.attrs.length ∧ u10 = .int .i64 (k : Int) ∧ wr.ownsRow W2.heap.size 44 2 u9 k (cellsA ((x.attrs.take k).map M3.fewA)) ∧ Below W2.heap.size W2 wr) (fun _ u10 _ => 5 - (intOf u10).toNat)
          case atStart => exact ⟨0, by omega, by omega, rfl, World.ownsRow_nil _ _ _ _, Below.refl _ _⟩
          case round =>
            obtain ⟨k, hk5, hkl, rfl, hown4, hb4⟩ := hrel
            have hz4 := hb4.size
            have bx4 := bx3.below hb4 hgl
            have e2 := bx4.cell (i := 2) rfl
            by_cases hk : k < 5 ∧ k < x.attrs.length
            · obtain ⟨hk1, hk2⟩ := hk
              obtain ⟨b', off', rfl, hSb', q0, q1⟩ := (hat.keep (w' := wr) (fun b h => ((hb4.block b (hSz2 b h)).trans (hbr3.block b (by have := hS b h; omega))))).atA k hk2
              have hbl' := hS b' hSb'
              obtain ⟨hsa, hsb⟩ := hs1.2.2 _ (List.getElem_mem hk2)
              have htk : cellsA ((x.attrs.take (k + 1)).map M3.fewA) = cellsA ((x.attrs.take k).map M3.fewA) ++ [.string (M3.few x.attrs[k].name), .string (M3.few x.attrs[k].value)] := by
                rw [List.take_succ_eq_append_getElem hk2, List.map_append, cellsA_append]; rfl
              generalize x.attrs[k].name = nm at *
              generalize x.attrs[k].value = vl at *
              replace htk := Lib.hid htk
              have ag : u9.ownBlock ≠ some wo.heap.size := fun e => by have := (hown4.lt _ e).1; omega
              have ab : u9.ownBlock ≠ some b' := fun e => by have := (hown4.lt _ e).1; omega
              go_wp2_with (fail)
              go_region_held3 (fun w' => w'.cell? ⟨wo.heap.size, 2, none⟩ = some (.slice (some ⟨b', off', none⟩) x.attrs.length cap1) ∧ w'.cell? ⟨b', off' + k * 2, none⟩ = some (.string nm) ∧ w'.cell? ⟨b', off' + k * 2 + 1, none⟩ = some (.string vl))
                (first
                  | go_keep
                  | (go_split_ands
                     refine ⟨?_, ?_, ?_⟩
                     · (rw [hgrow.cell_far _ (by simp; omega) (Ne.symm ag)]; assumption)
                     · (rw [hgrow.cell_far _ (by simp; omega) (Ne.symm ab)]; assumption)
                     · (rw [hgrow.cell_far _ (by simp; omega) (Ne.symm ab)]; assumption)))
                (first
                  | (go_at_call 97; refine (ref03few _ _ (by assumption)).mono ?_; rintro e w' ⟨rfl, rfl⟩)
                  | (refine step_append_lies _ (by rfl) _ _ _ (by rfl) W2.heap.size 44 i0 _ 2 32 Try.underlying29 hi0 hz00 hz01 hz02 rfl (by omega) u9 k _ (by rfl) ((hown4.alloc _).drew)
                      ⟨wr.heap.size, 0, none⟩ 1 1 [.string (M3.few nm), .string (M3.few vl)] (by rfl) (by rfl) (World.news_of_block (cs := #[.string (M3.few nm), .string (M3.few vl)]) (t := 44) (fr := (0, 0)) (heap_alloc_new wr _)) (by simp [Value.oneCell'])
                      (by omega) (by unfold maxLen; omega) (by omega) (by simp; omega) (wr.heap.size + 1) (by simp) ?_; intro gg cap' w5 hown5 hgrow hat5 hlt5))
              have hb5 : Below W2.heap.size W2 w5 := ((hb4.alloc hz4 (.cells #[.string (M3.few nm), .string (M3.few vl)] 44)).drew).grown hgrow (by simp; omega) (fun g hg => (hown4.lt g hg).1)
              have hown6 : w5.ownsRow W2.heap.size 44 2 (.slice (some ⟨gg, 0, none⟩) (k + 1) cap') (k + 1) (cellsA ((x.attrs.take (k + 1)).map M3.fewA)) := by rw [htk.out]; exact hown5
              clear hown5 hgrow hat5
              go_wp2
              go_roundw
              case rel => exact ⟨k + 1, by omega, by omega, by go_num, hown6, hb5⟩
              case measure => simp [intOf]; omega
            · have htk : (x.attrs.take 5).map M3.fewA = (x.attrs.take k).map M3.fewA := by
                rcases Nat.lt_or_ge k 5 with h | h
                · rw [List.take_of_length_le (show x.attrs.length ≤ 5 by omega), List.take_of_length_le (show x.attrs.length ≤ k by omega)]
                · rw [show k = 5 by omega]
              have hlk : ((x.attrs.take k).map M3.fewA).length = k := by simp; omega
              rw [← htk] at hown4 hlk
              generalize hat' : (x.attrs.take 5).map M3.fewA = ats' at *
              replace hat' := Lib.hid hat'
              replace htk := Lib.hid htk
              replace hlk := Lib.hid hlk
              obtain ⟨a4, cap4, rfl⟩ := own_slice hown4
              have f2 := bx4.free 2
              have e0 := bx4.cell (i := 0) rfl
              have e1 := bx4.cell (i := 1) rfl
              have e3 := bx4.cell (i := 3) rfl
              have e4 := bx4.cell (i := 4) rfl
              have hbr4 : Below wo.heap.size wo wr := hbr3.trans (hb4.mono (by omega))
              obtain ⟨j0, hj0, hj00, hj01, hj02⟩ := info_parts infoN
              have hownW := own_keep hown.out (fun g hg => hbr4.block g (hown.out.lt g hg).2)
              have hlz := hbr4.size
              have hz5 : (wr.setCell ⟨wo.heap.size, 2, none⟩ (.slice a4 k cap4)).heap.size = wr.heap.size := by simp [World.setCell]
              have hb5 : Below wo.heap.size wo (wr.setCell ⟨wo.heap.size, 2, none⟩ (.slice a4 k cap4)) := hbr4.setCell (p := ⟨wo.heap.size, 2, none⟩) (Nat.le_refl _) _
              have hfar : ∀ b, b ≠ wo.heap.size → (wr.setCell ⟨wo.heap.size, 2, none⟩ (.slice a4 k cap4)).heap[b]? = wr.heap[b]? := fun b h => Below.heap_setCell _ _ _ _ (by simpa using h)
              have hownW2 := own_keep hownW (fun g hg => hfar g (by have := (hownW.lt g hg); have := (hown.out.lt g hg).2; omega))
              have hnews : ∀ j u, ([.int .i64 x.kind, .string (M3.few x.name), .slice a4 k cap4, .string (M3.few x.text), .slice a3 ks'.length cap3] : List Value)[j]? = some u →
                  ((wr.setCell ⟨wo.heap.size, 2, none⟩ (.slice a4 k cap4)).alloc (.cells #[.int .i64 x.kind, .string (M3.few x.name), .slice a4 k cap4, .string (M3.few x.text), .slice a3 ks'.length cap3] 40)).cell? ((⟨wr.heap.size, 0, none⟩ : Addr).add j) = some u := by
                rw [← hz5]
                exact World.news_of_block (cs := #[.int .i64 x.kind, .string (M3.few x.name), .slice a4 k cap4, .string (M3.few x.text), .slice a3 ks'.length cap3]) (t := 40) (fr := (0, 0)) (heap_alloc_new _ _)
              -- the new node, as it lies behind the store
              have hatN := own_keep hown4 (fun g hg => hfar g (by have := (hown4.lt g hg).1; omega))
              have hownK := own_keep (own_keep hown3.out (fun g hg => hb4.block g (hown3.out.lt g hg).2)) (fun g hg => hfar g (by have := (hown3.out.lt g hg).1; have := hsz1.out; omega))
              have hrepK : RepC (fun b => W1.heap.size ≤ b ∧ b < w2.heap.size ∧ (Value.slice a3 ks'.length cap3).ownBlock ≠ some b) (wr.setCell ⟨wo.heap.size, 2, none⟩ (.slice a4 k cap4)) zs2 ks' :=
                RepC.keep (fun b h => (hfar b (by have := h.1; have := hsz1.out; omega)).trans (hb4.block b (by have := h.2.1; omega))) _ _ hrep3.out
              have hrepA2 : RepC (fun b => w.heap.size ≤ b ∧ b < wo.heap.size ∧ u6.ownBlock ≠ some b) (wr.setCell ⟨wo.heap.size, 2, none⟩ (.slice a4 k cap4)) zs A := RepC.keep (fun b h => hb5.block b h.2.1) _ _ hrepA.out
              have hlA := hown.out.1
              have hownK3 := Lib.hid (fun g hg => (hown3.out.lt g hg).2)
              replace hrepK := Lib.hid hrepK
              replace hrepA2 := Lib.hid hrepA2
              replace hatN := Lib.hid hatN
              replace hownK := Lib.hid hownK
              replace hnews := Lib.hid hnews
              replace hfar := Lib.hid hfar
              replace hz5 := Lib.hid hz5
              clear hrepA hrep3 hown3 hown4 hownW
              have hgb6 : u6.ownBlock ≠ some wo.heap.size := fun e => by have := (hown.out.lt _ e).2; omega
              have htest : (decide (k < x.attrs.length) = false) ∨ (decide (k < x.attrs.length) = true ∧ decide ((k : Int) < 5) = false) := by
                by_cases h : k < x.attrs.length
                · exact Or.inr ⟨decide_eq_true (by omega), decide_eq_false (by omega)⟩
                · exact Or.inl (decide_eq_false (by omega))
              clear hk
              rcases htest with htest | ⟨htest, htest2⟩
              all_goals
                go_wp2_with (at_builtin; refine wpList_append_lies _ rfl _ _ 37 rfl w.heap.size 40 j0 _ 5 88 Try.underlying37 hj0 hj00 hj01 hj02 rfl (by omega) u6 A.length zs rfl (hownW2.alloc _) ⟨wr.heap.size, 0, none⟩ 1 1 _ rfl rfl hnews.out (by simp [Value.oneCell']) (by omega) (by unfold maxLen; omega) (by omega) (by simp; omega) _ rfl ?_; intro gg cap' w5 hown5 hgrow hat5 hlt5)
                have hb6 : Below w.heap.size w w5 := (((hb.trans (hb5.mono hz)).alloc (by have := hz5.out; omega) (.cells #[.int .i64 x.kind, .string (M3.few x.name), .slice a4 _ cap4, .string (M3.few x.text), .slice a3 ks'.length cap3] 40))).grown hgrow (by simp; have := hz5.out; omega) (fun g hg => (hown.out.lt g hg).1)
                have hmade : Made w5 w.heap.size (.slice (some ⟨gg, 0, none⟩) (A.length + 1) cap') (A ++ [.mk x.kind (M3.few x.name) ats' (M3.few x.text) ks']) := by
                  refine Made.snoc (u := u6) (va := .slice a4 _ cap4) (vk := .slice a3 ks'.length cap3) (SA := fun b => w.heap.size ≤ b ∧ b < wo.heap.size ∧ u6.ownBlock ≠ some b) (SX := fun b => W1.heap.size ≤ b ∧ b < wr.heap.size) rfl hown5 hgrow ?_ ?_ ?_ ?_ ?_
                  · rcases hat5 with h | h
                    · exact Or.inl h
                    · exact Or.inr (by rw [h]; exact Nat.le_refl _)
                  · exact RepC.keep (fun b h => Below.heap_alloc _ _ _ (by have := hz5.out; have := h.2.1; omega)) _ _ hrepA2.out
                  · exact fun b h => ⟨h.1, by simp; have := hz5.out; have := h.2.1; omega, h.2.2⟩
                  · refine RepV.keep (w := wr.setCell ⟨wo.heap.size, 2, none⟩ (.slice a4 _ cap4)) ⟨?_, zs2, ?_, ?_⟩ (fun b h => Below.heap_alloc _ _ _ (by have := hz5.out; have := h.2; omega))
                    · have h1 := Row.own hatN.out (S := fun b => W1.heap.size ≤ b ∧ b < wr.heap.size) (fun g hg => by have := hatN.out.lt g hg; have := hz5.out; omega)
                      simpa only [Nd.attrs, hlk.out] using h1
                    · exact Row.own hownK.out (fun g hg => by have h1 := hownK.out.lt g hg; have h2 := hz5.out; have h3 := hownK3.out g hg; omega)
                    · exact RepC.mono (fun b h => ⟨h.1, by have := h.2.1; omega⟩) _ _ hrepK.out
                  · exact fun b h => ⟨by have := h.1; have := hsz1.out; omega, by simp; have := hz5.out; have := h.2; omega, fun e => by have := (hown.out.lt b e).2; have := h.1; have := hsz1.out; omega⟩
                clear hown5 hgrow hat5
                replace hmade := Lib.hid hmade
                go_roundw
                case rel =>
                  refine ⟨i + 1, m2, A ++ [.mk x.kind (M3.few x.name) ats' (M3.few x.text) ks'], by omega, by go_num, rfl, by simp; omega, hmade.out, hb6, ?_⟩
                  show _ ∧ _
                  rw [hc.1, hc.2]
                  simp
                case measure => simp [intOf]; omega
        · obtain rfl : mi = 0 := by omega
          rw [M3.cut_zero] at hc
          have hc1 := Lib.hid (show (M3.cut l m).1 = A by rw [hc.1]; simp)
          have hc2 := Lib.hid hc.2
          clear hc hmi
          replace hown := Lib.hid hown
          replace hrepA := Lib.hid hrepA
          go_wp2
          go_ret2
          exact ⟨u6, by rw [hc2.out]; rfl, by rw [hc1.out]; exact ⟨zs, hown.out, hrepA.out⟩, hb⟩
      · obtain rfl : i = l.length := by omega
        rw [List.drop_length, M3.cut_nil] at hc
        have hc1 := Lib.hid (show (M3.cut l m).1 = A by rw [hc.1]; simp)
        have hc2 := Lib.hid hc.2
        clear hc
        replace hown := Lib.hid hown
        replace hrepA := Lib.hid hrepA
        go_wp2
        go_ret2
        exact ⟨u6, by rw [hc2.out]; rfl, by rw [hc1.out]; exact ⟨zs, hown.out, hrepA.out⟩, hb⟩

def fewN (l : List Nd) : List Nd := (M3.cut l 40).1
def MadePost (l : List Nd) (w : World) (e : Ending) (w' : World) : Prop := ∃ v', e = .returned v' ∧ Made w' w.heap.size v' l ∧ Below w.heap.size w w'
set_option maxHeartbeats 1000000 in
theorem ref03Few (S : Nat → Prop) (v : Value) (l : List Nd) (w : World) (hS : ∀ b, S b → b < w.heap.size) (hr : RepN S w v l) (hsz : SzN l) :
    Calls Try.prog 51 #[v] w (MadePost (fewN l) w) := by
  have h := Lib.hid (fun W h1 h2 => ref03Cut 40 S v l W h1 h2 hsz (by omega))
  obtain ⟨a, cap, rfl⟩ := hr.slice
  go_enter Try.func51, Try.ntmps51
  go_wp2_with (fail)
  refine (h.out w hS hr).mono ?_
  rintro e w1 ⟨v1, rfl, hm1, hb1⟩
  replace hm1 := Lib.hid hm1
  go_wp2
  go_ret
  exact ⟨v1, rfl, hm1.out, hb1⟩
end Go.Proofs.Ytlknmnldblodbaa

/- What came in: nodes, as deep as they are, read as nodes. -/
namespace Go.Proofs.Ytlknmnldblodbaa
open Go.RowKit Go.ChangeShapes Go.WideShapes

theorem exists_list {α : Type} {p : Nat → α → Prop} (n : Nat) (h : ∀ i, i < n → ∃ a, p i a) : ∃ l : List α, l.length = n ∧ ∀ i (hi : i < l.length), p i l[i] := by
  induction n with
  | zero => exact ⟨[], rfl, fun i hi => by simp at hi⟩
  | succ n ih =>
    obtain ⟨l, hl, hp⟩ := ih (fun i hi => h i (by omega))
    obtain ⟨a, ha⟩ := h n (by omega)
    refine ⟨l ++ [a], by simp [hl], fun i hi => ?_⟩
    rw [List.length_append, List.length_cons, List.length_nil] at hi
    by_cases hin : i < l.length
    · rw [List.getElem_append_left hin]; exact hp i hin
    · rw [List.getElem_append_right (by omega)]
      simp only [List.getElem_singleton]
      rw [show i = n by omega]; exact ha
theorem flat_get {α : Type} (f : α → List Value) (k : Nat) (hf : ∀ x, (f x).length = k) (_ : 0 < k) : ∀ (L : List α) (j : Nat) (u : Value), (L.flatMap f)[j]? = some u → ∃ (i r : Nat) (h : i < L.length), j = i * k + r ∧ r < k ∧ (f L[i])[r]? = some u := by
  intro L
  induction L with
  | nil => intro j u h; simp at h
  | cons x r ih =>
    intro j u h
    rw [List.flatMap_cons] at h
    by_cases hj : j < k
    · rw [List.getElem?_append_left (by rw [hf]; exact hj)] at h
      exact ⟨0, j, by simp, by simp, hj, h⟩
    · rw [List.getElem?_append_right (by rw [hf]; omega), hf] at h
      obtain ⟨i, q, hi, h1, h2, h3⟩ := ih _ _ h
      refine ⟨i + 1, q, by simpa using hi, ?_, h2, by simpa using h3⟩
      rw [Nat.add_mul]; omega
theorem flat_len {α : Type} (f : α → List Value) (k : Nat) (hf : ∀ x, (f x).length = k) (L : List α) : (L.flatMap f).length = L.length * k := by
  induction L with
  | nil => simp
  | cons x r ih => rw [List.flatMap_cons, List.length_append, ih, hf, List.length_cons, Nat.add_mul]; omega
theorem cells_cell {w : World} {base : Nat} {a : Addr} {n : Nat} {cs : List Value} (h : w.cells? base a n = some cs) (hn : 0 < n) : ∃ b off, a = ⟨b, off, none⟩ ∧ b < w.heap.size ∧ ∀ i u, cs[i]? = some u → w.cell? ⟨b, off + i, none⟩ = some u := by
  obtain ⟨_, hl, hc⟩ := World.cells?_some h
  have h0 := hc 0 hn
  rw [List.getElem?_eq_getElem (by omega)] at h0
  obtain ⟨b, off, spot⟩ := a
  have hspot : spot = none := by simpa [Addr.add] using World.cell?_spot h0
  subst hspot
  refine ⟨b, off, rfl, ?_, fun i u hu => ?_⟩
  · have := World.block_lt_of_cell? w _ h0
    rwa [add_plain'] at this
  · have h1 := hc i (by have := (List.getElem?_eq_some_iff.1 hu).1; omega)
    rw [add_plain'] at h1
    rw [h1, hu]

section
variable {H : Type} {enc : TypeId × Value → H} {w : World} {base : Nat} {spare : Nat → Bool} {held : Bool}

/-- A slice of elements of k cells: what each element's cells are known to be. -/
theorem open_rows {t e : TypeId} {k fuel : Nat} {cs : List Value} {x : DataW H × List MemPlace} (ht : Try.prog.underlying t = some (.slice e)) (hC : Try.prog.cellsOf e = k) (hk : 0 < k) (h : DataW.trod enc Try.prog w base spare held fuel t cs = some x)
    {α : Type} (f : α → List Value) (hf : ∀ x, (f x).length = k) (q : α → Prop) (hq : ∀ n cs' y, n < fuel → cs'.length = k → DataW.trod enc Try.prog w base spare held n e cs' = some y → ∃ b : α, cs' = f b ∧ q b) :
    ∃ (v : Value) (L : List α), cs = [v] ∧ Row (fun b => b < w.heap.size) w k v L.length (L.flatMap f) ∧ ∀ b ∈ L, q b := by
  rcases DataW.trod_slice ht h with ⟨rfl, _⟩ | ⟨a, len, cap, elems, rest, n, hn, rfl, _, _, hl, hm, hlen, hel, _, _⟩
  · exact ⟨_, [], rfl, Row.nil _ _ _, fun b hb => by cases hb⟩
  · have key : ∀ i, i < len → ∃ b : α, q b ∧ w.cells? base (a.add (i * k)) k = some (f b) := by
      intro i hi
      have h1 := hel i hi
      rw [List.getElem?_eq_getElem (by omega), hC] at h1
      obtain ⟨cs', h2, h3⟩ := Option.bind_eq_some_iff.1 h1
      obtain ⟨b, rfl, hb⟩ := hq n cs' _ (by omega) (by have := (World.cells?_some h2).2.1; exact this) h3
      exact ⟨b, hb, h2⟩
    obtain ⟨L, hL, hp⟩ := exists_list len key
    unfold maxLen at hm
    refine ⟨_, L, rfl, ⟨flat_len f k hf L, some a, cap, by rw [hL], by omega, by omega, (fun h => by cases h), fun hpos => ?_⟩, fun b hb => ?_⟩
    · have h0 := (hp 0 hpos).2
      rw [Nat.zero_mul] at h0
      have ha0 : a.add 0 = a := by unfold Addr.add; simp
      rw [ha0] at h0
      obtain ⟨b, off, rfl, hbl, _⟩ := cells_cell h0 hk
      refine ⟨b, off, rfl, hbl, fun j u hu => ?_⟩
      obtain ⟨i, r, hi, rfl, hr, h3⟩ := flat_get f k hf hk L j u hu
      have h4 := (hp i hi).2
      rw [add_plain'] at h4
      obtain ⟨b', off', h5, _, h6⟩ := cells_cell h4 hk
      cases h5
      rw [← Nat.add_assoc]
      exact h6 r u h3
    · obtain ⟨i, hi, rfl⟩ := List.mem_iff_getElem.1 hb
      exact (hp i hi).1

theorem cell1 (t : TypeId) (h : t = 9 ∨ t = 3 ∨ t = 29 ∨ t = 37) : Try.prog.cellsOf t = 1 := by
  rcases h with rfl | rfl | rfl | rfl <;> kernel_rfl
theorem open_att {n : Nat} {cs : List Value} {y : DataW H × List MemPlace} (hl : cs.length = 2) (h : DataW.trod enc Try.prog w base spare held n 44 cs = some y) :
    ∃ b : Att, cs = [.string b.name, .string b.value] ∧ b.name.size ≤ 9223372036854775807 ∧ b.value.size ≤ 9223372036854775807 := by
  match cs, hl with
  | [c0, c1], _ =>
    obtain ⟨xs, m, _, _, _, hxs, hf⟩ := DataW.trod_struct Try.underlying44 h
    have h0 := hf 0 _ rfl
    have h1 := hf 1 _ rfl
    change DataW.trod enc Try.prog w base spare held m 9 ((([c0, c1] : List Value).drop 0).take (Try.prog.cellsOf 9)) = xs[0]? at h0
    change DataW.trod enc Try.prog w base spare held m 9 ((([c0, c1] : List Value).drop 1).take (Try.prog.cellsOf 9)) = xs[1]? at h1
    rw [cell1 9 (Or.inl rfl)] at h0 h1
    simp only [List.drop_zero, List.take_succ_cons, List.take_zero, List.drop_succ_cons] at h0 h1
    rw [List.getElem?_eq_getElem (by rw [hxs]; decide)] at h0
    rw [List.getElem?_eq_getElem (by rw [hxs]; decide)] at h1
    obtain ⟨s0, e0, _, z0⟩ := DataW.trod_string Try.underlying9 h0
    obtain ⟨s1, e1, _, z1⟩ := DataW.trod_string Try.underlying9 h1
    unfold maxLen at z0 z1
    simp only [List.cons.injEq, and_true] at e0 e1
    exact ⟨⟨s0, s1⟩, by rw [e0, e1], by show s0.size ≤ _; omega, by show s1.size ≤ _; omega⟩
theorem open_attrs {fuel : Nat} {cs : List Value} {x : DataW H × List MemPlace} (h : DataW.trod enc Try.prog w base spare held fuel 29 cs = some x) :
    ∃ (v : Value) (L : List Att), cs = [v] ∧ Row (fun b => b < w.heap.size) w 2 v L.length (cellsA L) ∧ ∀ b ∈ L, b.name.size ≤ 9223372036854775807 ∧ b.value.size ≤ 9223372036854775807 :=
  open_rows Try.underlying29 (by kernel_rfl) (by decide) h (fun a : Att => [.string a.name, .string a.value]) (fun _ => rfl) (fun b : Att => b.name.size ≤ 9223372036854775807 ∧ b.value.size ≤ 9223372036854775807) (fun n cs' y _ hl h => open_att hl h)

/-- A node by its cells. -/
structure NV where
  x : Nd
  va : Value
  vk : Value
theorem open_node {n : Nat} {cs : List Value} {y : DataW H × List MemPlace} (hl : cs.length = 5) (h : DataW.trod enc Try.prog w base spare held n 40 cs = some y)
    (ih : ∀ m cs' x, m < n → DataW.trod enc Try.prog w base spare held m 37 cs' = some x → ∃ (v : Value) (l : List Nd), cs' = [v] ∧ RepN (fun b => b < w.heap.size) w v l ∧ SzN l) :
    ∃ b : NV, cs = b.x.cells b.va b.vk ∧ RepV (fun b => b < w.heap.size) w b.x b.va b.vk ∧ Sz1 b.x ∧ SzN b.x.kids := by
  match cs, hl with
  | [c0, c1, c2, c3, c4], _ =>
    obtain ⟨xs, m, hm, _, _, hxs, hf⟩ := DataW.trod_struct Try.underlying40 h
    have h0 := hf 0 _ rfl
    have h1 := hf 1 _ rfl
    have h2 := hf 2 _ rfl
    have h3 := hf 3 _ rfl
    have h4 := hf 4 _ rfl
    change DataW.trod enc Try.prog w base spare held m 3 ((([c0, c1, c2, c3, c4] : List Value).drop 0).take (Try.prog.cellsOf 3)) = xs[0]? at h0
    change DataW.trod enc Try.prog w base spare held m 9 ((([c0, c1, c2, c3, c4] : List Value).drop 1).take (Try.prog.cellsOf 9)) = xs[1]? at h1
    change DataW.trod enc Try.prog w base spare held m 29 ((([c0, c1, c2, c3, c4] : List Value).drop 2).take (Try.prog.cellsOf 29)) = xs[2]? at h2
    change DataW.trod enc Try.prog w base spare held m 9 ((([c0, c1, c2, c3, c4] : List Value).drop 3).take (Try.prog.cellsOf 9)) = xs[3]? at h3
    change DataW.trod enc Try.prog w base spare held m 37 ((([c0, c1, c2, c3, c4] : List Value).drop 4).take (Try.prog.cellsOf 37)) = xs[4]? at h4
    rw [cell1 3 (Or.inr (Or.inl rfl))] at h0
    rw [cell1 9 (Or.inl rfl)] at h1 h3
    rw [cell1 29 (Or.inr (Or.inr (Or.inl rfl)))] at h2
    rw [cell1 37 (Or.inr (Or.inr (Or.inr rfl)))] at h4
    simp only [List.drop_zero, List.take_succ_cons, List.take_zero, List.drop_succ_cons] at h0 h1 h2 h3 h4
    rw [List.getElem?_eq_getElem (by rw [hxs]; decide)] at h0
    rw [List.getElem?_eq_getElem (by rw [hxs]; decide)] at h1
    rw [List.getElem?_eq_getElem (by rw [hxs]; decide)] at h2
    rw [List.getElem?_eq_getElem (by rw [hxs]; decide)] at h3
    rw [List.getElem?_eq_getElem (by rw [hxs]; decide)] at h4
    obtain ⟨k, e0, _, _⟩ := DataW.trod_int Try.underlying3 h0
    obtain ⟨s1, e1, _, z1⟩ := DataW.trod_string Try.underlying9 h1
    obtain ⟨va, L, e2, r2, z2⟩ := open_attrs h2
    obtain ⟨s3, e3, _, z3⟩ := DataW.trod_string Try.underlying9 h3
    obtain ⟨vk, l, e4, r4, z4⟩ := ih m _ _ (by omega) h4
    unfold maxLen at z1 z3
    simp only [List.cons.injEq, and_true] at e0 e1 e2 e3 e4
    exact ⟨⟨.mk k s1 L s3 l, va, vk⟩, by rw [e0, e1, e2, e3, e4]; rfl, ⟨r2, r4⟩, ⟨by show s1.size ≤ _; omega, by show s3.size ≤ _; omega, z2⟩, z4⟩
theorem open_nodes (fuel : Nat) : ∀ (cs : List Value) (x : DataW H × List MemPlace), DataW.trod enc Try.prog w base spare held fuel 37 cs = some x →
    ∃ (v : Value) (l : List Nd), cs = [v] ∧ RepN (fun b => b < w.heap.size) w v l ∧ SzN l := by
  induction fuel using Nat.strongRecOn with
  | ind fuel ih =>
    intro cs x h
    obtain ⟨v, L, hv, hr, hq⟩ := open_rows Try.underlying37 (by kernel_rfl) (by decide) h (fun b : NV => b.x.cells b.va b.vk) (fun _ => rfl) (fun b => RepV (fun b => b < w.heap.size) w b.x b.va b.vk ∧ Sz1 b.x ∧ SzN b.x.kids)
      (fun n cs' y hn hl h => open_node hl h (fun m cs'' x hm h => ih m (by omega) cs'' x h))
    refine ⟨v, L.map NV.x, hv, ⟨_, by simpa using hr, ?_⟩, ?_⟩
    · clear hr hv h ih
      induction L with
      | nil => exact RepC.nil _ _
      | cons b r ih =>
        rw [List.flatMap_cons, List.map_cons]
        exact RepC.append (m := r.map NV.x) (ih (fun c hc => hq c (by simp [hc]))) [b.x] _ (RepC.single (hq b (by simp)).1)
    · clear hr hv h ih
      induction L with
      | nil => show SzN []; rw [SzN]; trivial
      | cons b r ih =>
        rw [List.map_cons]
        exact szN_cons.2 ⟨(hq b (by simp)).2.1, (hq b (by simp)).2.2, ih (fun c hc => hq c (by simp [hc]))⟩
end
end Go.Proofs.Ytlknmnldblodbaa

/- Package dom: clones. -/
namespace Go.Proofs.Ytlknmnldblodbaa
open Go.RowKit

/-- Nodes that a call has made, each row a block of its own, and F the blocks: none stands twice. -/
def OwnC (w : World) : List Value → List Nd → List Nat → Prop
  | xs, [], F => xs = [] ∧ F = []
  | xs, .mk k n ats t ks :: r, F => ∃ va vk zs ys F1 F2, xs = .int .i64 k :: .string n :: va :: .string t :: vk :: ys ∧ w.ownsRow 0 44 2 va ats.length (cellsA ats) ∧ w.ownsRow 0 40 5 vk ks.length zs ∧
      F = (va.ownBlock.toList ++ (vk.ownBlock.toList ++ F1)) ++ F2 ∧ OwnC w zs ks F1 ∧ OwnC w ys r F2
termination_by _ l _ => SizeOf.sizeOf l
theorem OwnC.cons_iff {w : World} {xs : List Value} {x : Nd} {r : List Nd} {F : List Nat} :
    OwnC w xs (x :: r) F ↔ ∃ va vk zs ys F1 F2, xs = x.cells va vk ++ ys ∧ w.ownsRow 0 44 2 va x.attrs.length (cellsA x.attrs) ∧ w.ownsRow 0 40 5 vk x.kids.length zs ∧
      F = (va.ownBlock.toList ++ (vk.ownBlock.toList ++ F1)) ++ F2 ∧ OwnC w zs x.kids F1 ∧ OwnC w ys r F2 := by cases x; rw [OwnC]; rfl
theorem OwnC.nil (w : World) : OwnC w [] [] [] := by rw [OwnC]; exact ⟨rfl, rfl⟩
theorem OwnC.keep {w w' : World} (l : List Nd) : ∀ (xs : List Value) (F : List Nat), (∀ b ∈ F, w'.heap[b]? = w.heap[b]?) → OwnC w xs l F → OwnC w' xs l F := by
  induction l using Nd.ind with
  | h0 => intro xs F _ h; rw [OwnC] at h ⊢; exact h
  | h1 k n ats t ks r ih1 ih2 =>
    intro xs F hk h
    obtain ⟨va, vk, zs, ys, F1, F2, h1, h2, h3, rfl, h5, h6⟩ := OwnC.cons_iff.1 h
    refine OwnC.cons_iff.2 ⟨va, vk, zs, ys, F1, F2, h1, own_keep h2 (fun g hg => hk g (by simp [hg])), own_keep h3 (fun g hg => hk g (by simp [hg])), rfl, ih1 _ _ (fun b hb => hk b (by simp [hb])) h5, ih2 _ _ (fun b hb => hk b (by simp [hb])) h6⟩
theorem OwnC.append {w : World} {m : List Nd} {ys : List Value} {G : List Nat} (h : OwnC w ys m G) (l : List Nd) : ∀ (xs : List Value) (F : List Nat), OwnC w xs l F → OwnC w (xs ++ ys) (l ++ m) (F ++ G) := by
  induction l using Nd.ind with
  | h0 => intro xs F h'; rw [OwnC] at h'; obtain ⟨rfl, rfl⟩ := h'; exact h
  | h1 k n ats t ks r _ ih2 =>
    intro xs F h'
    obtain ⟨va, vk, zs, ys', F1, F2, rfl, h2, h3, rfl, h5, h6⟩ := OwnC.cons_iff.1 h'
    exact OwnC.cons_iff.2 ⟨va, vk, zs, ys' ++ ys, F1, F2 ++ G, by rw [List.append_assoc], h2, h3, by simp, h5, ih2 _ _ h6⟩
theorem OwnC.len {w : World} (l : List Nd) : ∀ (xs : List Value) (F : List Nat), OwnC w xs l F → xs.length = l.length * 5 := by
  induction l using Nd.ind with
  | h0 => intro xs F h; rw [OwnC] at h; rw [h.1]; rfl
  | h1 k n ats t ks r _ ih2 =>
    intro xs F h
    obtain ⟨va, vk, zs, ys, F1, F2, rfl, h2, h3, rfl, h5, h6⟩ := OwnC.cons_iff.1 h
    have := ih2 _ _ h6
    simp
    omega
theorem OwnC.rep {w : World} (l : List Nd) : ∀ (xs : List Value) (F : List Nat), OwnC w xs l F → RepC (· ∈ F) w xs l := by
  induction l using Nd.ind with
  | h0 => intro xs F h; rw [OwnC] at h; rw [RepC]; exact h.1
  | h1 k n ats t ks r ih1 ih2 =>
    intro xs F h
    obtain ⟨va, vk, zs, ys, F1, F2, rfl, h2, h3, rfl, h5, h6⟩ := OwnC.cons_iff.1 h
    refine RepC.cons_iff.2 ⟨va, vk, ys, rfl, Row.own h2 (fun g hg => by simp [hg]), ⟨zs, Row.own h3 (fun g hg => by simp [hg]), RepC.mono (fun b hb => by simp [hb]) _ _ (ih1 _ _ h5)⟩, RepC.mono (fun b hb => by simp [hb]) _ _ (ih2 _ _ h6)⟩
/-- Blocks between two numbers, none twice. -/
def Span (lo hi : Nat) (F : List Nat) : Prop := F.Nodup ∧ ∀ b ∈ F, lo ≤ b ∧ b < hi
theorem Span.nil (lo hi : Nat) : Span lo hi [] := ⟨List.nodup_nil, fun b h => by cases h⟩
theorem Span.append {lo mid hi : Nat} {F G : List Nat} (hF : Span lo mid F) (hG : Span mid hi G) (h1 : lo ≤ mid) (h2 : mid ≤ hi) : Span lo hi (F ++ G) := by
  refine ⟨List.nodup_append.2 ⟨hF.1, hG.1, fun a ha b hb e => by have h3 := (hF.2 a ha).2; have h4 := (hG.2 b hb).1; omega⟩, fun b hb => ?_⟩
  rcases List.mem_append.1 hb with hb | hb
  · have := hF.2 b hb; omega
  · have := hG.2 b hb; omega
theorem Span.mono {lo lo' hi hi' : Nat} {F : List Nat} (hF : Span lo hi F) (h1 : lo' ≤ lo) (h2 : hi ≤ hi') : Span lo' hi' F := ⟨hF.1, fun b hb => by have := hF.2 b hb; omega⟩
theorem Span.own {w : World} {B : Nat} {e : TypeId} {k n : Nat} {v : Value} {xs : List Value} (h : w.ownsRow B e k v n xs) : Span B w.heap.size v.ownBlock.toList := by
  refine ⟨by cases v.ownBlock <;> simp, fun b hb => ?_⟩
  have : v.ownBlock = some b := by cases hv : v.ownBlock <;> simp [hv] at hb ⊢; exact hb.symm
  exact h.lt b this

/-- What a call has made and hands back, with all that stands in it, nothing shared. -/
def Fresh (w' : World) (B : Nat) (v : Value) (l : List Nd) : Prop := ∃ zs F, w'.ownsRow B 40 5 v l.length zs ∧ OwnC w' zs l F ∧ Span B w'.heap.size (v.ownBlock.toList ++ F)
theorem Fresh.rep {w' : World} {B : Nat} {v : Value} {l : List Nd} (h : Fresh w' B v l) : RepN (fun b => B ≤ b ∧ b < w'.heap.size) w' v l := by
  obtain ⟨zs, F, h1, h2, h3⟩ := h
  exact ⟨zs, Row.own h1 (fun g hg => h1.lt g hg), RepC.mono (fun b hb => h3.2 b (by simp [hb])) _ _ (OwnC.rep _ _ _ h2)⟩
def FreshPost (l : List Nd) (w : World) (e : Ending) (w' : World) : Prop := ∃ v', e = .returned v' ∧ Fresh w' w.heap.size v' l ∧ Below w.heap.size w w'
/-- A node by value, its rows its own. -/
def FreshV (x : Nd) (w : World) (e : Ending) (w' : World) : Prop := ∃ va vk zs F, e = .returned (x.val va vk) ∧ w'.ownsRow w.heap.size 44 2 va x.attrs.length (cellsA x.attrs) ∧ w'.ownsRow w.heap.size 40 5 vk x.kids.length zs ∧ OwnC w' zs x.kids F ∧ Span w.heap.size w'.heap.size (va.ownBlock.toList ++ (vk.ownBlock.toList ++ F)) ∧ Below w.heap.size w w'
end Go.Proofs.Ytlknmnldblodbaa

/- Package dom: clones, walked. -/
namespace Go.Proofs.Ytlknmnldblodbaa
open Go.RowKit

/-- 'append(s, y...)' onto a row that the call owns, elements of k cells; y reads as ys. -/
theorem wpList_appRow {P : Program} {ops : Array Oper} {rest : List Oper} {o : Oper} {a : Act} {Q : Exit → Act → World → Prop} (w1 : World) (hgd : o.guard = none) (s y : Operand) (t e : TypeId)
    (ho : o.op = .call { callee := .builtin .append, args := #[s, y], argTypes := #[t, t] }) (base k : Nat) {z : Value} {bytes : Nat} (ht : P.underlying t = some (.slice e))
    (hinfo : (P.info? e).map (fun i => (i.zero, i.size, i.bytes)) = some (some z, k, bytes)) (hz : z.cells.size = k) (hk : 0 < k)
    (v : Value) (n : Nat) (xs : List Value) (hs : a.eval s = v) (hown : w1.ownsRow base e k v n xs) (S : Nat → Prop) (yv : Value) (m : Nat) (ys : List Value) (hy : a.eval y = yv) (hx : Row S w1 k yv m ys) (h1 : ∀ u ∈ ys, u.oneCell' = true)
    (h63 : n + m ≤ 9223372036854775807) (hbytes : (n + m) * bytes ≤ 140737488355328) (hbase : base ≤ w1.heap.size)
    (h : ∀ v' w2, w2.ownsRow base e k v' (n + m) (xs ++ ys) → w1.grownBy w2 v.ownBlock → wpList P ops Q rest (a.put o.dst v') w2) : wpList P ops Q (o :: rest) a w1 := by
  obtain ⟨i, hi, hz0, hz1, hz2⟩ := info_parts hinfo
  obtain ⟨h0, ad, cap, rfl, h2, h3, h4, h5⟩ := hx
  cases ad with
  | none =>
    have h6 := h4 rfl
    obtain rfl : m = 0 := by omega
    obtain rfl : ys = [] := List.eq_nil_of_length_eq_zero (by simpa using h0)
    subst h6
    refine wpList_append_own_none hgd s y t ho base e i k ht hi v n xs hs hown hy ?_
    exact h v w1 (by simpa using hown) ⟨rfl, rfl, rfl, Nat.le_refl _, fun _ _ _ => rfl⟩
  | some ad =>
    refine wpList_append_own _ hgd s y t ho base e i z k bytes ht hi hz0 hz1 hz2 hz hk v n xs hs hown ad m cap ys hy h0 ?_ h1 (by unfold maxLen; omega) hbytes hbase ?_
    · intro j u hj
      have hm : 0 < m := by
        rcases Nat.eq_zero_or_pos m with h | h
        · subst h
          rw [Nat.zero_mul] at h0
          rw [List.eq_nil_of_length_eq_zero h0] at hj
          simp at hj
        · exact h
      obtain ⟨b, off, h6, _, h7⟩ := h5 hm
      cases h6
      rw [add_plain']
      exact h7 j u hj
    · intro v' w2 h8 h9 _
      exact h v' w2 h8 h9

theorem below_none {W w1 : World} {v : Value} (h : W.grownBy w1 v.ownBlock) (hv : v.ownBlock = none := by rfl) : Below W.heap.size W w1 := by
  rw [hv] at h
  exact ⟨h.os, h.tape, h.output, h.size, fun k hk => h.block k hk (by simp)⟩


end Go.Proofs.Ytlknmnldblodbaa

/- Layer 3 by plain definitions: merged two ways, merged twice, and which merged nodes may be; nodes that may be, made of any. No program in it. -/
namespace Go.Proofs.Ytlknmnldblodbaa
namespace M3

theorem cat_data (s t : ByteArray) : (cat s t).data.toList = s.data.toList ++ t.data.toList := by simp [cat]
theorem nilB_data' (s : ByteArray) : nilB s = s.data.toList.isEmpty := by unfold nilB; rw [ByteArray.toList_eq]
theorem nilB_cat (s t : ByteArray) : nilB (cat s t) = (nilB s && nilB t) := by
  rw [nilB_data', nilB_data', nilB_data', cat_data]
  cases s.data.toList <;> cases t.data.toList <;> rfl
theorem cat_assoc (s t u : ByteArray) : cat (cat s t) u = cat s (cat t u) := by simp [cat]
theorem cat_nil (s : ByteArray) : cat s ⟨#[]⟩ = s := by cases s; simp [cat]
theorem withText_self (x : Nd) : withText x x.text = x := by cases x; rfl
theorem withText_kind (x : Nd) (t : ByteArray) : (withText x t).kind = x.kind := by cases x; rfl
theorem withText_text (x : Nd) (t : ByteArray) : (withText x t).text = t := by cases x; rfl
theorem withText_kids (x : Nd) (t : ByteArray) : (withText x t).kids = x.kids := by cases x; rfl
theorem withText_attrs (x : Nd) (t : ByteArray) : (withText x t).attrs = x.attrs := by cases x; rfl
theorem withText_name (x : Nd) (t : ByteArray) : (withText x t).name = x.name := by cases x; rfl
theorem withText_two (x : Nd) (s t : ByteArray) : withText (withText x s) t = withText x t := by cases x; rfl

def isText (x : Nd) : Bool := x.kind == 2
def bareB (x : Nd) : Bool := isText x && nilB x.text
theorem bareB_iff {x : Nd} : bareB x = true ↔ x.kind = 2 ∧ nilB x.text = true := by simp [bareB, isText]
theorem push_bare {out : List Nd} {x : Nd} (h : bareB x = true) : push out x = out := by unfold push; rw [if_pos (bareB_iff.1 h)]
theorem push_none {x : Nd} (h : bareB x = false) : push [] x = [x] := by
  unfold push
  rw [if_neg (by rw [← bareB_iff]; simp [h])]
  rfl
theorem push_snoc {out : List Nd} {x y : Nd} (h : bareB x = false) : push (out ++ [y]) x = if isText x && isText y then out ++ [withText y (cat y.text x.text)] else out ++ [y] ++ [x] := by
  unfold push
  rw [if_neg (by rw [← bareB_iff]; simp [h])]
  simp [isText]
theorem merge_nil : merge [] = [] := rfl
theorem merge_snoc (l : List Nd) (x : Nd) : merge (l ++ [x]) = push (merge l) x := by simp [merge]

/-- One text of the texts that nodes begin with. -/
def joinT : List Nd → ByteArray
  | [] => ⟨#[]⟩
  | x :: r => if isText x then cat x.text (joinT r) else ⟨#[]⟩
def runT (l : List Nd) : Nat := (l.takeWhile isText).length
theorem runT_le (l : List Nd) : runT l ≤ l.length := (List.takeWhile_prefix isText).length_le
theorem joinT_yes {x : Nd} (r : List Nd) (h : isText x = true) : joinT (x :: r) = cat x.text (joinT r) := by rw [joinT, if_pos h]
theorem joinT_no {x : Nd} (r : List Nd) (h : isText x = false) : joinT (x :: r) = ⟨#[]⟩ := by rw [joinT, if_neg (by simp [h])]
theorem runT_yes {x : Nd} (r : List Nd) (h : isText x = true) : runT (x :: r) = runT r + 1 := by simp [runT, h]
theorem runT_no {x : Nd} (r : List Nd) (h : isText x = false) : runT (x :: r) = 0 := by simp [runT, h]

/-- Texts side by side as one, from the front. -/
def front : List Nd → List Nd
  | [] => []
  | x :: r => if isText x then withText x (cat x.text (joinT r)) :: front (r.drop (runT r)) else x :: front r
termination_by l => l.length
decreasing_by
  · simp only [List.length_drop, List.length_cons]; omega
  · simp
theorem front_nil : front [] = [] := by rw [front]
theorem front_yes {x : Nd} (r : List Nd) (h : isText x = true) : front (x :: r) = withText x (joinT (x :: r)) :: front ((x :: r).drop (runT (x :: r))) := by
  rw [front, if_pos h, joinT_yes r h, runT_yes r h]
  rfl
theorem front_no {x : Nd} (r : List Nd) (h : isText x = false) : front (x :: r) = x :: front r := by rw [front, if_neg (by simp [h])]

theorem filled_nil : filled [] = [] := rfl
theorem filled_cons (x : Nd) (l : List Nd) : filled (x :: l) = if bareB x then filled l else x :: filled l := by
  unfold filled
  rw [List.filter_cons]
  show (if (!(bareB x)) = true then _ else _) = _
  cases bareB x <;> rfl
theorem filled_append (a b : List Nd) : filled (a ++ b) = filled a ++ filled b := by simp [filled]
theorem filled_snoc (l : List Nd) (x : Nd) : filled (l ++ [x]) = if bareB x then filled l else filled l ++ [x] := by
  rw [filled_append, filled_cons, filled_nil]
  cases bareB x <;> simp
theorem filled_all (l : List Nd) : ∀ x ∈ filled l, bareB x = false := by
  intro x hx
  have := (List.mem_filter.1 hx).2
  show bareB x = false
  change (!(bareB x)) = true at this
  simpa using this
theorem filled_mem {l : List Nd} {x : Nd} (h : x ∈ filled l) : x ∈ l := (List.mem_filter.1 h).1
theorem foldl_filled (l : List Nd) : ∀ out, l.foldl push out = (filled l).foldl push out := by
  induction l with
  | nil => intro out; rfl
  | cons x r ih =>
    intro out
    rw [filled_cons, List.foldl_cons]
    cases h : bareB x
    · simp only [Bool.false_eq_true, if_false, List.foldl_cons]; exact ih _
    · rw [push_bare h, if_pos rfl]; exact ih _

/-- From the front and from behind are one. -/
theorem fold_texts (l : List Nd) : ∀ (out : List Nd) (y : Nd), (∀ x ∈ l, bareB x = false) → isText y = true → l.foldl push (out ++ [y]) = (l.drop (runT l)).foldl push (out ++ [withText y (cat y.text (joinT l))]) := by
  induction l with
  | nil => intro out y _ _; rw [joinT, cat_nil, withText_self]; rfl
  | cons x r ih =>
    intro out y hb hy
    have hx := hb x (by simp)
    cases ht : isText x
    · rw [joinT_no r ht, runT_no r ht, cat_nil, withText_self]; rfl
    · rw [List.foldl_cons, push_snoc hx, ht, hy, Bool.and_true, if_pos rfl, ih _ _ (fun z hz => hb z (by simp [hz])) (by rw [isText, withText_kind]; exact hy), joinT_yes r ht, runT_yes r ht, withText_text, withText_two, cat_assoc]
      rfl
theorem drop_run_head (l : List Nd) : ∀ x, (l.drop (runT l)).head? = some x → isText x = false := by
  induction l with
  | nil => intro x h; simp at h
  | cons y r ih =>
    intro x h
    cases ht : isText y
    · rw [runT_no r ht] at h; simp at h; subst h; exact ht
    · rw [runT_yes r ht] at h; exact ih x (by simpa using h)
theorem fold_front (n : Nat) : ∀ (l out : List Nd), l.length ≤ n → (∀ x ∈ l, bareB x = false) → (∀ y x, out.getLast? = some y → l.head? = some x → (isText x && isText y) = false) → l.foldl push out = out ++ front l := by
  induction n with
  | zero => intro l out hl _ _; obtain rfl : l = [] := List.eq_nil_of_length_eq_zero (by omega); rw [front_nil]; simp
  | succ n ih =>
    intro l out hl hb hj
    cases l with
    | nil => rw [front_nil]; simp
    | cons x r =>
      have hx := hb x (by simp)
      have hp : push out x = out ++ [x] := by
        rcases List.eq_nil_or_concat out with rfl | ⟨o, y, rfl⟩
        · rw [push_none hx]; rfl
        · rw [List.concat_eq_append, push_snoc hx, hj y x (by simp) rfl]; simp
      rw [List.foldl_cons, hp]
      cases ht : isText x
      · rw [front_no r ht, ih r _ (by simpa using hl) (fun z hz => hb z (by simp [hz])) (fun y z hy hz => by simp at hy; subst hy; rw [ht, Bool.and_false]), List.append_assoc]; rfl
      · rw [fold_texts r out x (fun z hz => hb z (by simp [hz])) ht, ih _ _ (by simp at hl ⊢; omega) (fun z hz => hb z (by simp [List.mem_of_mem_drop hz])) (fun y z hy hz => by rw [drop_run_head r z hz]; rfl), front_yes r ht, joinT_yes r ht, runT_yes r ht, List.append_assoc]
        rfl
theorem merge_front (l : List Nd) : merge l = front (filled l) := by
  unfold merge
  rw [foldl_filled, fold_front _ _ [] (Nat.le_refl _) (filled_all l) (fun y x hy => by simp at hy)]
  rfl

/-- No empty text, none right behind a text. -/
def apart : Bool → List Nd → Bool
  | _, [] => true
  | p, x :: r => !(isText x && (nilB x.text || p)) && apart (isText x) r
theorem apart_iff {p : Bool} {x : Nd} {r : List Nd} : apart p (x :: r) = true ↔ (isText x = true → nilB x.text = false ∧ p = false) ∧ apart (isText x) r = true := by
  rw [apart]
  cases isText x <;> cases nilB x.text <;> cases p <;> simp
theorem apart_weak {p : Bool} {l : List Nd} (h : apart p l = true) : apart false l = true := by
  cases l with
  | nil => rfl
  | cons x r => rw [apart_iff] at h ⊢; exact ⟨fun a => ⟨(h.1 a).1, rfl⟩, h.2⟩
theorem merge_apart (l : List Nd) : ∀ out : List Nd, (∀ y, out.getLast? = some y → apart (isText y) l = true) → apart false l = true → l.foldl push out = out ++ l := by
  induction l with
  | nil => intro out _ _; simp
  | cons x r ih =>
    intro out h1 h2
    rw [apart_iff] at h2
    have hx : bareB x = false := by
      rw [bareB]; cases ht : isText x
      · rfl
      · rw [(h2.1 ht).1]; rfl
    have hp : push out x = out ++ [x] := by
      rcases List.eq_nil_or_concat out with rfl | ⟨o, y, rfl⟩
      · rw [push_none hx]; rfl
      · rw [List.concat_eq_append] at h1 ⊢
        have h3 := h1 y (by simp)
        rw [apart_iff] at h3
        rw [push_snoc hx]
        have : (isText x && isText y) = false := by
          cases ht : isText x
          · rfl
          · rw [(h3.1 ht).2]; rfl
        rw [this]; simp
    rw [List.foldl_cons, hp, ih _ (fun y hy => by simp at hy; subst hy; exact h2.2) (apart_weak h2.2)]
    simp
theorem apart_front (n : Nat) : ∀ (l : List Nd) (p : Bool), l.length ≤ n → (∀ x ∈ l, bareB x = false) → (∀ x, l.head? = some x → (isText x && p) = false) → apart p (front l) = true := by
  induction n with
  | zero => intro l p hl _ _; obtain rfl : l = [] := List.eq_nil_of_length_eq_zero (by omega); rw [front_nil]; rfl
  | succ n ih =>
    intro l p hl hb hj
    cases l with
    | nil => rw [front_nil]; rfl
    | cons x r =>
      have hx := hb x (by simp)
      have hjx := hj x rfl
      cases ht : isText x
      · rw [front_no r ht, apart, ih r _ (by simpa using hl) (fun z hz => hb z (by simp [hz])) (fun z _ => by rw [ht, Bool.and_false]), ht]; rfl
      · have h1 : isText (withText x (joinT (x :: r))) = true := by rw [isText, withText_kind]; exact ht
        have h2 : nilB (joinT (x :: r)) = false := by
          rw [joinT_yes r ht, nilB_cat]
          have : nilB x.text = false := by rw [bareB, ht] at hx; simpa using hx
          rw [this]; rfl
        rw [ht, Bool.true_and] at hjx
        rw [front_yes r ht, apart, h1, withText_text, h2, hjx, ih _ _ (by rw [runT_yes r ht]; simp at hl ⊢; omega) (fun z hz => hb z (List.mem_of_mem_drop hz)) (fun z hz => by rw [drop_run_head (x :: r) z hz]; rfl)]
        rfl
theorem merge_apart' (l : List Nd) : apart false (merge l) = true := by
  rw [merge_front]
  exact apart_front _ _ _ (Nat.le_refl _) (filled_all l) (fun x _ => Bool.and_false _)
theorem merge_merge (l : List Nd) : merge (merge l) = merge l := by
  have h := merge_apart (merge l) [] (fun y hy => by simp at hy) (merge_apart' l)
  simpa [merge] using h

/-- What all of nodes keep, if merging does. -/
theorem merge_all {P : Nd → Prop} (hP : ∀ x y, P x → P y → isText x = true → isText y = true → P (withText x (cat x.text y.text))) (l : List Nd) (h : ∀ x ∈ l, P x) : ∀ x ∈ merge l, P x := by
  have key : ∀ (l out : List Nd), (∀ x ∈ l, P x) → (∀ x ∈ out, P x) → ∀ x ∈ l.foldl push out, P x := by
    intro l
    induction l with
    | nil => intro out _ ho; exact ho
    | cons x r ih =>
      intro out hl ho
      rw [List.foldl_cons]
      refine ih _ (fun z hz => hl z (by simp [hz])) ?_
      have hx := hl x (by simp)
      cases hb : bareB x
      · rcases List.eq_nil_or_concat out with rfl | ⟨o, y, rfl⟩
        · rw [push_none hb]; simpa using hx
        · rw [List.concat_eq_append] at ho ⊢
          rw [push_snoc hb]
          split
          · rename_i hc
            simp at hc
            intro z hz
            rcases List.mem_append.1 hz with hz | hz
            · exact ho z (by simp [hz])
            · simp at hz; subst hz
              exact hP y x (ho y (by simp)) hx hc.2 hc.1
          · intro z hz
            rcases List.mem_append.1 hz with hz | hz
            · exact ho z hz
            · simp at hz; subst hz; exact hx
      · rw [push_bare hb]; exact ho
  exact key l [] h (fun x hx => by cases hx)

/-- A node that may be anywhere but for its being an empty text, or behind a text. -/
def okP (x : Nd) : Prop := if isText x then plainB x = true ∧ M1.isB x.text.data.toList = true else oneE x false = 0 ∧ mayE false x.kids = 0
theorem plain_kids {x : Nd} (h : plainB x = true) : x.kids = [] := by simp [plainB] at h; exact h.2
theorem may_of_ok (l : List Nd) : ∀ p, (∀ x ∈ l, okP x) → apart p l = true → mayE p l = 0 := by
  induction l with
  | nil => intro p _ _; exact mayE_nil p
  | cons x r ih =>
    intro p h hap
    have hx := h x (by simp)
    rw [apart_iff] at hap
    rw [mayE_cons]
    unfold okP at hx
    cases ht : isText x
    · rw [ht] at hx
      simp only [Bool.false_eq_true, if_false] at hx
      have h1 : oneE x p = oneE x false := by
        have : ¬ x.kind = 2 := by simpa [isText] using ht
        unfold oneE
        rw [if_neg this, if_neg this]
      have h2 : (x.kind == 2) = false := ht
      rw [h1, hx.1, hx.2, h2]
      simp only [ne_eq, not_true_eq_false, if_false]
      exact ih false (fun z hz => h z (by simp [hz])) (by have h := hap.2; rwa [ht] at h)
    · rw [ht, if_pos rfl] at hx
      have hk : x.kind = 2 := by simpa [isText] using ht
      have h1 : oneE x p = 0 := by
        unfold oneE
        rw [if_neg (by omega), if_pos hk, if_pos hx.1, hx.2, (hap.1 ht).1, (hap.1 ht).2]
        rfl
      rw [h1, plain_kids hx.1, mayE_nil]
      have h2 : (x.kind == 2) = true := ht
      rw [h2]
      simp only [ne_eq, not_true_eq_false, if_false]
      exact ih true (fun z hz => h z (by simp [hz])) (by have h := hap.2; rwa [ht] at h)
theorem isB_append {a b : List UInt8} (ha : M1.isB a = true) (hb : M1.isB b = true) : M1.isB (a ++ b) = true := by
  rw [← (M1.isB_right_iff a).1 ha, ← (M1.isB_right_iff b).1 hb]
  exact M1.isB_join a b
theorem okP_cat (x y : Nd) (hx : okP x) (hy : okP y) (h1 : isText x = true) (h2 : isText y = true) : okP (withText x (cat x.text y.text)) := by
  have ht : isText (withText x (cat x.text y.text)) = true := by rw [isText, withText_kind]; exact h1
  unfold okP at *
  rw [h1, if_pos rfl] at hx
  rw [h2, if_pos rfl] at hy
  rw [ht, if_pos rfl]
  refine ⟨?_, ?_⟩
  · have := hx.1; cases x; exact this
  · rw [withText_text, cat_data]; exact isB_append hx.2 hy.2
theorem may_merge (l : List Nd) (h : ∀ x ∈ l, okP x) : mayE false (merge l) = 0 := may_of_ok _ _ (merge_all okP_cat l h) (merge_apart' l)
end M3
end Go.Proofs.Ytlknmnldblodbaa

/- Nodes by the cells that hold them, one level deep: rows that share what stands in them. -/
namespace Go.Proofs.Ytlknmnldblodbaa
open Go.RowKit

abbrev NV.cells (b : NV) : List Value := b.x.cells b.va b.vk
def cellsV (L : List NV) : List Value := L.flatMap NV.cells
def NV.ok (b : NV) : Prop := (∃ a c, b.va = .slice a b.x.attrs.length c) ∧ ∃ a c, b.vk = .slice a b.x.kids.length c
theorem cellsV_nil : cellsV [] = [] := rfl
theorem cellsV_cons (b : NV) (L : List NV) : cellsV (b :: L) = b.cells ++ cellsV L := rfl
theorem cellsV_append (A B : List NV) : cellsV (A ++ B) = cellsV A ++ cellsV B := by simp [cellsV]
theorem cellsV_one (b : NV) : cellsV [b] = b.cells := by simp [cellsV]
theorem cellsV_snoc (A : List NV) (b : NV) : cellsV (A ++ [b]) = cellsV A ++ b.cells := by rw [cellsV_append, cellsV_one]
theorem cellsV_len (L : List NV) : (cellsV L).length = L.length * 5 := by
  induction L with
  | nil => rfl
  | cons b r ih => rw [cellsV_cons, List.length_append, ih, List.length_cons]; simp; omega
theorem RepV.ok {S : Nat → Prop} {w : World} {b : NV} (h : RepV S w b.x b.va b.vk) : b.ok := ⟨h.at_.slice, h.kids.slice⟩
theorem RepC.nv {S : Nat → Prop} {w : World} : ∀ (l : List Nd) (xs : List Value), RepC S w xs l → ∃ L : List NV, L.map NV.x = l ∧ xs = cellsV L ∧ ∀ b ∈ L, RepV S w b.x b.va b.vk := by
  intro l
  induction l using Nd.ind with
  | h0 => intro xs h; rw [RepC] at h; exact ⟨[], rfl, h, fun b hb => by cases hb⟩
  | h1 k n ats t ks r _ ih2 =>
    intro xs h
    obtain ⟨va, vk, ys, rfl, h2, h3, h5⟩ := RepC.cons_iff.1 h
    obtain ⟨L, rfl, rfl, hL⟩ := ih2 _ h5
    refine ⟨⟨.mk k n ats t ks, va, vk⟩ :: L, rfl, rfl, fun b hb => ?_⟩
    rcases List.mem_cons.1 hb with rfl | hb
    · exact ⟨h2, h3⟩
    · exact hL b hb
theorem RepC.of_nv {S : Nat → Prop} {w : World} {L : List NV} (h : ∀ b ∈ L, RepV S w b.x b.va b.vk) : RepC S w (cellsV L) (L.map NV.x) := by
  induction L with
  | nil => exact RepC.nil _ _
  | cons b r ih =>
    rw [cellsV_cons, List.map_cons]
    exact RepC.append (m := r.map NV.x) (ih (fun c hc => h c (by simp [hc]))) [b.x] _ (RepC.single (h b (by simp)))
theorem cellsV_at (L : List NV) (i : Nat) (h : i < L.length) :
    (cellsV L)[i * 5]? = some (.int .i64 L[i].x.kind) ∧ (cellsV L)[i * 5 + 1]? = some (.string L[i].x.name) ∧ (cellsV L)[i * 5 + 2]? = some L[i].va ∧ (cellsV L)[i * 5 + 3]? = some (.string L[i].x.text) ∧ (cellsV L)[i * 5 + 4]? = some L[i].vk := by
  induction L generalizing i with
  | nil => simp at h
  | cons b r ih =>
    cases i with
    | zero => simp [cellsV_cons, NV.cells]
    | succ i =>
      have := ih i (by simpa using h)
      rw [cellsV_cons, show (i + 1) * 5 = i * 5 + 1 + 1 + 1 + 1 + 1 by omega]
      simpa [NV.cells] using this
theorem Row.atV {S : Nat → Prop} {w : World} {a : Option Addr} {n cap : Nat} {L : List NV} (h : Row S w 5 (.slice a n cap) L.length (cellsV L)) (i : Nat) (hi : i < L.length) :
    ∃ b off, a = some ⟨b, off, none⟩ ∧ S b ∧ w.cell? ⟨b, off + i * 5, none⟩ = some (.int .i64 L[i].x.kind) ∧ w.cell? ⟨b, off + i * 5 + 1, none⟩ = some (.string L[i].x.name) ∧ w.cell? ⟨b, off + i * 5 + 2, none⟩ = some L[i].va ∧ w.cell? ⟨b, off + i * 5 + 3, none⟩ = some (.string L[i].x.text) ∧ w.cell? ⟨b, off + i * 5 + 4, none⟩ = some L[i].vk := by
  obtain ⟨h0, a', cap', h1, h2, h3, h4, h5⟩ := h
  cases h1
  obtain ⟨b, off, rfl, h7, h8⟩ := h5 (by omega)
  obtain ⟨c0, c1, c2, c3, c4⟩ := cellsV_at L i hi
  exact ⟨b, off, rfl, h7, h8 _ _ c0, h8 _ _ c1, h8 _ _ c2, h8 _ _ c3, h8 _ _ c4⟩
/-- What lies in a row of the call's own. -/
theorem own_atV {w : World} {B g : Nat} {n cap : Nat} {L : List NV} (h : w.ownsRow B 40 5 (.slice (some ⟨g, 0, none⟩) n cap) n (cellsV L)) (i : Nat) (hi : i < L.length) :
    w.cell? ⟨g, i * 5, none⟩ = some (.int .i64 L[i].x.kind) ∧ w.cell? ⟨g, i * 5 + 3, none⟩ = some (.string L[i].x.text) ∧ w.frozen? ⟨g, i * 5 + 3, none⟩ = false := by
  obtain ⟨c0, c1, c2, c3, c4⟩ := cellsV_at L i hi
  have hc := fun j u hu => h.cells (g := g) rfl j u hu
  refine ⟨by have := hc _ _ c0; rwa [add_plain', Nat.zero_add] at this, by have := hc _ _ c3; rwa [add_plain', Nat.zero_add] at this, ?_⟩
  rcases h.2 with ⟨h', _⟩ | ⟨g', cap', cur, h', _, hg, _⟩
  · cases h'
  · cases h'
    simp [World.frozen?, hg]

/-- 'append(s, x)' of one element of k cells onto a row that the call owns. -/
theorem wpList_appK {P : Program} {ops : Array Oper} {rest : List Oper} {o : Oper} {a : Act} {Q : Exit → Act → World → Prop} (w1 : World) (cs : List Value) (k : Nat) (hgd : o.guard = none) (s y : Operand) (t e : TypeId)
    (ho : o.op = .call { callee := .builtin .append, args := #[s, y], argTypes := #[t, t] }) (base : Nat) {z : Value} {bytes : Nat} (ht : P.underlying t = some (.slice e))
    (hinfo : (P.info? e).map (fun i => (i.zero, i.size, i.bytes)) = some (some z, k, bytes)) (hz : z.cells.size = k) (hk : 0 < k)
    (v : Value) (n : Nat) (xs : List Value) (hs : a.eval s = v) (hown : w1.ownsRow base e k v n xs) (H : Nat) (hH : w1.heap.size = H) (hx : a.eval y = .slice (some ⟨H, 0, none⟩) 1 1) (hcs : cs.length = k) (h1 : ∀ u ∈ cs, u.oneCell' = true)
    (h63 : n + 1 ≤ 9223372036854775807) (hbytes : (n + 1) * bytes ≤ 140737488355328) (hbase : base ≤ w1.heap.size)
    (h : ∀ g cap w2, w2.ownsRow base e k (.slice (some ⟨g, 0, none⟩) (n + 1) cap) (n + 1) (xs ++ cs) → w1.grownBy w2 v.ownBlock → (v.ownBlock = some g ∨ w1.heap.size ≤ g) → wpList P ops Q rest (a.put o.dst (.slice (some ⟨g, 0, none⟩) (n + 1) cap)) w2) : wpList P ops Q (o :: rest) a (w1.alloc (.cells cs.toArray e)) := by
  subst hH
  obtain ⟨i, hi, hz0, hz1, hz2⟩ := info_parts hinfo
  refine wpList_append_lies _ hgd s y t ho base e i z k bytes ht hi hz0 hz1 hz2 hz hk v n xs hs (hown.alloc _) ⟨w1.heap.size, 0, none⟩ 1 1 cs hx (by omega) ?_ h1 (by omega) (by unfold maxLen; omega) hbytes (by simp; omega) _ rfl ?_
  · intro j u hj
    rw [add_plain', Nat.zero_add, World.cell?_alloc_at _ _ _ _ rfl]
    simpa using hj
  · intro g cap w2 h2 h3 h4 _
    exact h g cap w2 h2 (grownBy_of_alloc h3) (by
      rcases h4 with h4 | h4
      · exact .inl h4
      · right; rw [h4]; simp)
theorem own_below3 {w w1 : World} {base : Nat} {e : TypeId} {k : Nat} {v : Value} {n : Nat} {xs : List Value} (h : w.ownsRow base e k v n xs) (hb : Below w.heap.size w w1) : w1.ownsRow base e k v n xs :=
  own_keep h (fun g hg => hb.block g (h.lt g hg).2)
theorem below_own {B base : Nat} {e : TypeId} {k n : Nat} {v : Value} {xs : List Value} {a w w' : World} (h : Below B a w) (hown : w.ownsRow base e k v n xs) (hg : w.grownBy w' v.ownBlock) (hB : B ≤ w.heap.size) (hb : B ≤ base) : Below B a w' :=
  h.grown hg hB (fun k hk => by have := (hown.lt k hk).1; omega)

/-! ### Parts of a row of nodes -/
theorem RepN.take {S : Nat → Prop} {w : World} {a : Option Addr} {n cap : Nat} {l : List Nd} (h : RepN S w (.slice a n cap) l) (q : Nat) (hq : q ≤ l.length) : RepN S w (.slice a q cap) (l.take q) := by
  obtain ⟨xs, ⟨h1, a', cap', h2, h3, h4, h5, h6⟩, hc⟩ := h
  cases h2
  refine ⟨xs.take (q * 5), ⟨by simp; omega, a, cap, by simp; omega, by simp; omega, h4, h5, fun hp => ?_⟩, RepC.take l xs q hc⟩
  simp at hp
  obtain ⟨b, off, e, hb, hx⟩ := h6 (by omega)
  refine ⟨b, off, e, hb, fun j u hj => hx j u ?_⟩
  rw [List.getElem?_take] at hj
  split at hj
  · exact hj
  · cases hj
theorem RepN.zero (S : Nat → Prop) (w : World) (b : Nat) : RepN S w (.slice (some ⟨b, 0, none⟩) 0 0) [] := ⟨[], ⟨rfl, some ⟨b, 0, none⟩, 0, rfl, Nat.le_refl _, by omega, (fun e => by cases e), fun h => absurd h (by simp)⟩, RepC.nil _ _⟩
theorem RepN.drop {S : Nat → Prop} {w : World} {b : Nat} {off n cap : Nat} {l : List Nd} (h : RepN S w (.slice (some ⟨b, off, none⟩) n cap) l) (q : Nat) (hq : q ≤ l.length) : RepN S w (.slice (some ⟨b, off + q * 5, none⟩) (n - q) (cap - q)) (l.drop q) := by
  obtain ⟨xs, ⟨h1, a', cap', h2, h3, h4, h5, h6⟩, hc⟩ := h
  cases h2
  refine ⟨xs.drop (q * 5), ⟨by simp; omega, some ⟨b, off + q * 5, none⟩, cap - q, by simp, by simp; omega, by omega, (fun e => by cases e), fun hp => ?_⟩, RepC.drop l xs q hc⟩
  simp at hp
  obtain ⟨b', off', e, hb, hx⟩ := h6 (by omega)
  cases e
  refine ⟨b, off + q * 5, rfl, hb, fun j u hj => ?_⟩
  rw [List.getElem?_drop] at hj
  have := hx _ u hj
  rwa [← Nat.add_assoc] at this

/-- 's[q:]', as the walk has it. -/
theorem RepN.rest {S : Nat → Prop} {w : World} {b : Nat} {off n cap : Nat} {l : List Nd} (h : RepN S w (.slice (some ⟨b, off, none⟩) n cap) l) (q : Nat) (hq : q ≤ l.length) :
    RepN S w (.slice (if cap = q then some ⟨b, off, none⟩ else some ⟨b, off + q * 5, none⟩) (n - q) (cap - q)) (l.drop q) := by
  obtain ⟨hn, hc, _⟩ := h.len
  by_cases e : cap = q
  · rw [if_pos e]
    have h1 : l.drop q = [] := List.drop_of_length_le (by omega)
    rw [h1, show n - q = 0 by omega, show cap - q = 0 by omega]
    exact ⟨[], ⟨rfl, some ⟨b, off, none⟩, 0, rfl, Nat.le_refl _, by omega, (fun e => by cases e), fun h => absurd h (by simp)⟩, RepC.nil _ _⟩
  · rw [if_neg e]
    exact h.drop q hq

/-! ### Merged, by cells -/
def NV.withText (b : NV) (t : ByteArray) : NV := ⟨M3.withText b.x t, b.va, b.vk⟩
def bareV (b : NV) : Bool := M3.bareB b.x
def pushV (out : List NV) (b : NV) : List NV :=
  if bareV b then out
  else match out.getLast? with
    | some y => if M3.isText b.x && M3.isText y.x then out.dropLast ++ [y.withText (M3.cat y.x.text b.x.text)] else out ++ [b]
    | none => out ++ [b]
def mergeV (L : List NV) : List NV := L.foldl pushV []
theorem pushV_bare {out : List NV} {b : NV} (h : bareV b = true) : pushV out b = out := by unfold pushV; rw [if_pos h]
theorem pushV_nil {b : NV} (h : bareV b = false) : pushV [] b = [b] := by unfold pushV; rw [if_neg (by simp [h])]; rfl
theorem pushV_snoc {out : List NV} {b y : NV} (h : bareV b = false) : pushV (out ++ [y]) b = if M3.isText b.x && M3.isText y.x then out ++ [y.withText (M3.cat y.x.text b.x.text)] else out ++ [y] ++ [b] := by
  unfold pushV
  rw [if_neg (by simp [h])]
  simp
theorem mergeV_snoc (L : List NV) (b : NV) : mergeV (L ++ [b]) = pushV (mergeV L) b := by simp [mergeV]
theorem pushV_map (out : List NV) (b : NV) : (pushV out b).map NV.x = M3.push (out.map NV.x) b.x := by
  cases h : bareV b
  · rcases List.eq_nil_or_concat out with rfl | ⟨o, y, rfl⟩
    · rw [pushV_nil h]; exact (M3.push_none h).symm
    · rw [List.concat_eq_append, pushV_snoc h, List.map_append, List.map_cons, List.map_nil, M3.push_snoc h]
      split <;> simp [NV.withText]
  · rw [pushV_bare h, M3.push_bare h]
theorem mergeV_map (L : List NV) : (mergeV L).map NV.x = M3.merge (L.map NV.x) := by
  have key : ∀ (L out : List NV), (L.foldl pushV out).map NV.x = (L.map NV.x).foldl M3.push (out.map NV.x) := by
    intro L
    induction L with
    | nil => intro out; rfl
    | cons b r ih => intro out; rw [List.foldl_cons, ih, pushV_map]; rfl
  exact key L []
def txtV (L : List NV) : Nat := (L.map fun b => b.x.text.size).sum
theorem txtV_append (A B : List NV) : txtV (A ++ B) = txtV A + txtV B := by simp [txtV]
theorem txtV_one (b : NV) : txtV [b] = b.x.text.size := by simp [txtV]
theorem cat_size (s t : ByteArray) : (M3.cat s t).size = s.size + t.size := by
  show (M3.cat s t).data.toList.length = s.data.toList.length + t.data.toList.length
  rw [M3.cat_data, List.length_append]
theorem txtV_push (out : List NV) (b : NV) : txtV (pushV out b) ≤ txtV out + b.x.text.size ∧ (pushV out b).length ≤ out.length + 1 := by
  cases h : bareV b
  · rcases List.eq_nil_or_concat out with rfl | ⟨o, y, rfl⟩
    · rw [pushV_nil h, txtV_one]; simp
    · rw [List.concat_eq_append, pushV_snoc h]
      split
      · rw [txtV_append, txtV_append, txtV_one, txtV_one]; simp [NV.withText, M3.withText_text, cat_size]; omega
      · rw [txtV_append, txtV_one]; simp
  · rw [pushV_bare h]; omega
theorem txtV_merge (L : List NV) : txtV (mergeV L) ≤ txtV L ∧ (mergeV L).length ≤ L.length := by
  have key : ∀ (L out : List NV), txtV (L.foldl pushV out) ≤ txtV out + txtV L ∧ (L.foldl pushV out).length ≤ out.length + L.length := by
    intro L
    induction L with
    | nil => intro out; simp [txtV]
    | cons b r ih =>
      intro out
      have h1 := ih (pushV out b)
      have h2 := txtV_push out b
      have h3 : txtV (b :: r) = b.x.text.size + txtV r := by simp [txtV]
      rw [List.foldl_cons, h3, List.length_cons]
      omega
  have := key L []
  simpa [mergeV, txtV] using this
theorem txtV_mem {L : List NV} {b : NV} (h : b ∈ L) : b.x.text.size ≤ txtV L := by
  induction L with
  | nil => cases h
  | cons c r ih =>
    have h3 : txtV (c :: r) = c.x.text.size + txtV r := by simp [txtV]
    rcases List.mem_cons.1 h with rfl | h
    · omega
    · have := ih h; omega
end Go.Proofs.Ytlknmnldblodbaa

/- The reference of layer 3: merged. -/
namespace Go.Proofs.Ytlknmnldblodbaa
open Go.RowKit

/-- A row of nodes that the call has made; what stands in them is shared. -/
def ShPost (L : List NV) (w : World) (e : Ending) (w' : World) : Prop := ∃ v', e = .returned v' ∧ w'.ownsRow w.heap.size 40 5 v' L.length (cellsV L) ∧ Below w.heap.size w w'
theorem five_one (k : Int) (n t : ByteArray) (a1 a2 : Option Addr) (n1 c1 n2 c2 : Nat) : ∀ u ∈ ([.int .i64 k, .string n, .slice a1 n1 c1, .string t, .slice a2 n2 c2] : List Value), u.oneCell' = true := by simp [Value.oneCell']
theorem meas_nat {n k : Nat} (h : k < n) : n - (intOf (.int .i64 ((k : Int) + 1))).toNat < n - (intOf (.int .i64 (k : Int))).toNat := by
  show n - ((k : Int) + 1).toNat < n - (k : Int).toNat
  omega
theorem cat_eq (s t : ByteArray) : M3.cat s t = s ++ t := by
  have h := cat_mk s.data.toList t
  have e : (⟨s.data.toList.toArray⟩ : ByteArray) = s := by cases s; simp
  rw [e] at h
  rw [h]; rfl
theorem setText_cells (A : List NV) (y : NV) (t : ByteArray) (i : Nat) (h : i = A.length) : (cellsV (A ++ [y])).set (i * 5 + 3) (.string t) = cellsV (A ++ [y.withText t]) := by
  subst h
  rw [cellsV_snoc, cellsV_snoc]
  have h5 : (cellsV A).length = A.length * 5 := cellsV_len A
  rw [List.set_append_right _ _ (by omega), h5, show A.length * 5 + 3 - A.length * 5 = 3 by omega]
  obtain ⟨x, va, vk⟩ := y
  cases x
  rfl

set_option maxHeartbeats 4000000 in
set_option maxRecDepth 100000 in
theorem ref03MergeV (S : Nat → Prop) (v : Value) (L : List NV) (w : World) (hS : ∀ b, S b → b < w.heap.size) (hr : Row S w 5 v L.length (cellsV L)) (hok : ∀ b ∈ L, b.ok) (hl : L.length ≤ 1000000) (ht : txtV L ≤ 1073741824) :
    Calls Try.prog 75 #[v] w (ShPost (mergeV L) w) := by
  obtain ⟨a, cap, rfl⟩ := hr.slice
  obtain ⟨_, hlc, hcm⟩ := hr.len
  replace hok := Lib.hid hok
  go_enter Try.func75, Try.ntmps75
  go_wp2_with (fail)
  go_loopw [3, 4, 5] (fun u3 u4 u5 wr => ∃ (i : Nat) (A : List NV), i ≤ L.length ∧ u4 = .int .i64 (i : Int) ∧ Hid (A = mergeV (L.take i)) ∧ wr.ownsRow w.heap.size 40 5 u3 A.length (cellsV A) ∧ Below w.heap.size w wr) (fun _ u4 _ _ => L.length - (intOf u4).toNat)
  case atStart => exact ⟨0, [], by omega, rfl, rfl, World.ownsRow_nil _ _ _ _, Below.refl _ _⟩
  case round =>
    obtain ⟨i, A, hi, rfl, hA, hown, hb⟩ := hrel
    have hlen : ∀ W, (Builtin.len_ #[37] 3 #[u3]).run Try.prog W = .ok (.int .i64 (A.length : Int)) W := by
      obtain ⟨a3, cap3, rfl⟩ := own_slice hown
      exact fun _ => rfl
    have hz := hb.size
    have hAl : A.length ≤ 1000000 := by rw [hA.out]; have := (txtV_merge (L.take i)).2; have := List.length_take_le i L; omega
    have hAt : txtV A ≤ 1073741824 := by
      rw [hA.out]
      have h1 := (txtV_merge (L.take i)).1
      have h2 : txtV L = txtV (L.take i) + txtV (L.drop i) := by rw [← txtV_append, List.take_append_drop]
      omega
    by_cases hlt : i < L.length
    · obtain ⟨b, off, rfl, hSb, c0, c1, c2, c3, c4⟩ := (hr.below hS hb).atV i hlt
      have hbl := hS b hSb
      have htk : L.take (i + 1) = L.take i ++ [L[i]] := List.take_succ_eq_append_getElem hlt
      have hA2 : Hid (mergeV (L.take (i + 1)) = pushV A L[i]) := by show _ = _; rw [htk, mergeV_snoc, hA.out]
      have hxt := txtV_mem (List.getElem_mem hlt)
      have hkx := hok.out _ (List.getElem_mem hlt)
      clear hA htk
      generalize L[i] = x at *
      obtain ⟨⟨k, n, ats, t, ks⟩, va, vk⟩ := x
      obtain ⟨⟨a1, e1, hva⟩, a2, e2, hvk⟩ := hkx
      simp only [Nd.kind, Nd.name, Nd.text, Nd.attrs, Nd.kids] at c0 c1 c2 c3 c4 hxt hva hvk
      subst hva
      subst hvk
      have hbare : bareV ⟨.mk k n ats t ks, .slice a1 ats.length e1, .slice a2 ks.length e2⟩ = ((k == 2) && t.toList.isEmpty) := rfl
      cases hk : (k == 2)
      · -- no text
        rw [hk] at hbare
        have hp : pushV A ⟨.mk k n ats t ks, .slice a1 ats.length e1, .slice a2 ks.length e2⟩ = A ++ [(⟨.mk k n ats t ks, .slice a1 ats.length e1, .slice a2 ks.length e2⟩ : NV)] := by
          rcases List.eq_nil_or_concat A with rfl | ⟨o, y, rfl⟩
          · exact pushV_nil hbare
          · rw [List.concat_eq_append, pushV_snoc hbare]
            have h3 : M3.isText (.mk k n ats t ks) = false := hk
            rw [h3]; rfl
        rw [hp] at hA2
        clear hp hbare
        go_wp2_with (at_builtin; refine wpList_appK _ [.int .i64 k, .string n, .slice a1 ats.length e1, .string t, .slice a2 ks.length e2] 5 rfl _ _ 37 40 rfl w.heap.size Try.underlying37 infoN rfl (by omega) _ A.length (cellsV A) rfl hown _ rfl rfl rfl (five_one _ _ _ _ _ _ _ _ _) (by omega) (by omega) (by omega) ?_; intro g cp w2 hown2 hgrow2 hat2)
        have hb2 := below_own hb hown hgrow2 hz (Nat.le_refl _)
        have hown3 : w2.ownsRow w.heap.size 40 5 (.slice (some ⟨g, 0, none⟩) (A.length + 1) cp) (A ++ [(⟨.mk k n ats t ks, .slice a1 ats.length e1, .slice a2 ks.length e2⟩ : NV)]).length (cellsV (A ++ [(⟨.mk k n ats t ks, .slice a1 ats.length e1, .slice a2 ks.length e2⟩ : NV)])) := by
          rw [cellsV_snoc]; rw [List.length_append]; exact hown2
        clear hown2 hgrow2 hat2
        go_roundw
        case rel => exact ⟨i + 1, A ++ [(⟨.mk k n ats t ks, .slice a1 ats.length e1, .slice a2 ks.length e2⟩ : NV)], by omega, by go_num, Lib.hid hA2.out.symm, hown3, hb2⟩
        case measure => exact meas_nat hlt
      · obtain rfl : k = 2 := by simpa using hk
        clear hk
        cases hte : t.toList.isEmpty
        · rw [hte] at hbare
          rcases List.eq_nil_or_concat A with rfl | ⟨o, y, rfl⟩
          · rw [pushV_nil hbare] at hA2
            clear hbare
            go_wp2_with (at_builtin; refine wpList_appK _ [.int .i64 2, .string n, .slice a1 ats.length e1, .string t, .slice a2 ks.length e2] 5 rfl _ _ 37 40 rfl w.heap.size Try.underlying37 infoN rfl (by omega) _ 0 (cellsV []) rfl hown _ rfl rfl rfl (five_one _ _ _ _ _ _ _ _ _) (by omega) (by omega) (by omega) ?_; intro g cp w2 hown2 hgrow2 hat2)
            have hb2 := below_own hb hown hgrow2 hz (Nat.le_refl _)
            have hown3 : w2.ownsRow w.heap.size 40 5 (.slice (some ⟨g, 0, none⟩) (0 + 1) cp) ([] ++ [(⟨.mk 2 n ats t ks, .slice a1 ats.length e1, .slice a2 ks.length e2⟩ : NV)]).length (cellsV ([] ++ [(⟨.mk 2 n ats t ks, .slice a1 ats.length e1, .slice a2 ks.length e2⟩ : NV)])) := by
              rw [cellsV_snoc]; exact hown2
            clear hown2 hgrow2 hat2
            go_roundw
            case rel => exact ⟨i + 1, [] ++ [(⟨.mk 2 n ats t ks, .slice a1 ats.length e1, .slice a2 ks.length e2⟩ : NV)], by omega, by go_num, Lib.hid hA2.out.symm, hown3, hb2⟩
            case measure => exact meas_nat hlt
          · rw [List.concat_eq_append] at *
            have hol : (o ++ [y]).length = o.length + 1 := by simp
            rw [hol] at hown hlen hAl
            obtain ⟨g3, cap3, rfl, hg3, hg3l⟩ := hown.form (by omega)
            clear hlen
            obtain ⟨o0, o3, f3⟩ := own_atV hown o.length (by omega)
            rw [List.getElem_append_right (Nat.le_refl _)] at o0 o3
            simp only [Nat.sub_self, List.getElem_cons_zero] at o0 o3
            rw [pushV_snoc hbare] at hA2
            have hyt : y.x.text.size ≤ 1073741824 := by rw [txtV_append, txtV_one] at hAt; omega
            have hi1 : ((o.length : Int) + 1 - 1) = (o.length : Int) := by omega
            have hcp : (cap3 : Int) ≤ 9223372036854775807 ∧ (o.length : Int) < (cap3 : Int) := by
              rcases hown.2 with ⟨h', _⟩ | ⟨g', cap', cur, h', _, _, q1, q2, _⟩
              · cases h'
              · cases h'
                unfold maxLen at q2
                omega
            obtain ⟨hcp1, hcp2⟩ := hcp
            obtain ⟨⟨k2, n2, ats2, t2, ks2⟩, va2, vk2⟩ := y
            simp only [Nd.kind, Nd.text] at o0 o3 hyt
            cases hk2 : (k2 == 2)
            · have h3 : M3.isText (.mk k2 n2 ats2 t2 ks2) = false := hk2
              simp only [h3, Bool.and_false, Bool.false_eq_true, if_false] at hA2
              clear h3 hbare
              go_wp2_with (at_builtin; refine wpList_appK _ [.int .i64 2, .string n, .slice a1 ats.length e1, .string t, .slice a2 ks.length e2] 5 rfl _ _ 37 40 rfl w.heap.size Try.underlying37 infoN rfl (by omega) _ (o.length + 1) (cellsV (o ++ [(⟨.mk k2 n2 ats2 t2 ks2, va2, vk2⟩ : NV)])) rfl hown _ rfl rfl rfl (five_one _ _ _ _ _ _ _ _ _) (by omega) (by omega) (by omega) ?_; intro g cp w2 hown2 hgrow2 hat2)
              have hb2 := below_own hb hown hgrow2 hz (Nat.le_refl _)
              have hown3 : w2.ownsRow w.heap.size 40 5 (.slice (some ⟨g, 0, none⟩) (o.length + 1 + 1) cp) ((o ++ [(⟨.mk k2 n2 ats2 t2 ks2, va2, vk2⟩ : NV)]) ++ [(⟨.mk 2 n ats t ks, .slice a1 ats.length e1, .slice a2 ks.length e2⟩ : NV)]).length (cellsV ((o ++ [(⟨.mk k2 n2 ats2 t2 ks2, va2, vk2⟩ : NV)]) ++ [(⟨.mk 2 n ats t ks, .slice a1 ats.length e1, .slice a2 ks.length e2⟩ : NV)])) := by
                rw [cellsV_snoc, List.length_append, hol]; exact hown2
              clear hown2 hgrow2 hat2
              go_roundw
              case rel => exact ⟨i + 1, (o ++ [(⟨.mk k2 n2 ats2 t2 ks2, va2, vk2⟩ : NV)]) ++ [(⟨.mk 2 n ats t ks, .slice a1 ats.length e1, .slice a2 ks.length e2⟩ : NV)], by omega, by go_num, Lib.hid hA2.out.symm, hown3, hb2⟩
              case measure => exact meas_nat hlt
            · have h3 : M3.isText (.mk k2 n2 ats2 t2 ks2) = true := hk2
              have h4 : M3.isText (.mk 2 n ats t ks) = true := rfl
              simp only [h3, h4, Bool.and_self, if_true] at hA2
              clear h3 h4 hbare
              obtain rfl : k2 = 2 := by simpa using hk2
              go_wp2_with (fail)
              have hq1 : (o.length : Int) < (o.length : Int) + 1 := by omega
              have hq2 : (i : Int) < (L.length : Int) := by omega
              have hq3 : ¬ (9223372036854775807 < t2.size + t.size) := by omega
              go_still_tail 15, (by kernel_rfl)
              change wpList _ _ _ _ _ wr.drew
              go_wp2_with (fail)
              have hst := (hown.stored (o.length * 5 + 3) (.string (t2 ++ t))).1
              have hown3 := own_keep hst (w' := (wr.setCell ⟨g3, o.length * 5 + 3, none⟩ (.string (t2 ++ t))).drew) (fun _ _ => rfl)
              rw [setText_cells _ _ _ _ rfl, ← cat_eq] at hown3
              have hb3 : Below w.heap.size w (wr.setCell ⟨g3, o.length * 5 + 3, none⟩ (.string (t2 ++ t))).drew := (hb.setCell (p := ⟨g3, o.length * 5 + 3, none⟩) hg3 _).drew
              go_roundw
              case rel => exact ⟨i + 1, o ++ [NV.withText (⟨.mk 2 n2 ats2 t2 ks2, va2, vk2⟩ : NV) (M3.cat t2 t)], by omega, by go_num, Lib.hid hA2.out.symm, by rw [List.length_append]; exact hown3, hb3⟩
              case measure => exact meas_nat hlt
        · rw [hte] at hbare
          rw [pushV_bare hbare] at hA2
          go_wp2_with (fail)
          go_roundw
          case rel => exact ⟨i + 1, A, by omega, by go_num, Lib.hid hA2.out.symm, hown, hb⟩
          case measure => exact meas_nat hlt
    · obtain rfl : i = L.length := by omega
      rw [List.take_length] at hA
      go_wp2_with (fail)
      go_ret
      exact ⟨u3, rfl, by rw [← hA.out]; exact hown, hb⟩
end Go.Proofs.Ytlknmnldblodbaa

/- Package dom: nodes without empty texts; the texts that nodes begin with. -/
namespace Go.Proofs.Ytlknmnldblodbaa
open Go.RowKit

def filledV (L : List NV) : List NV := L.filter fun b => !(bareV b)
theorem filledV_snoc (L : List NV) (b : NV) : filledV (L ++ [b]) = if bareV b then filledV L else filledV L ++ [b] := by
  unfold filledV
  rw [List.filter_append]
  cases h : bareV b <;> simp [h]
theorem filledV_map (L : List NV) : (filledV L).map NV.x = M3.filled (L.map NV.x) := by
  unfold filledV M3.filled
  rw [List.filter_map]
  rfl
theorem filledV_len (L : List NV) : (filledV L).length ≤ L.length := List.length_filter_le _ _


end Go.Proofs.Ytlknmnldblodbaa

/- Package dom: the texts that nodes begin with. -/
namespace Go.Proofs.Ytlknmnldblodbaa
open Go.RowKit

/-- The texts of the first k nodes, one behind the other. -/
def catK (l : List Nd) (k : Nat) : List UInt8 := (l.take k).flatMap fun x => x.text.data.toList
theorem catK_zero (l : List Nd) : catK l 0 = [] := by simp [catK]
theorem catK_succ (l : List Nd) (k : Nat) (h : k < l.length) : catK l (k + 1) = catK l k ++ l[k].text.data.toList := by
  unfold catK
  rw [List.take_succ_eq_append_getElem h, List.flatMap_append]
  simp
theorem run_join (l : List Nd) : ∀ k, k ≤ l.length → (∀ i (h : i < l.length), i < k → M3.isText l[i] = true) → (∀ h : k < l.length, M3.isText l[k] = false) → M3.runT l = k ∧ M3.joinT l = ⟨(catK l k).toArray⟩ := by
  induction l with
  | nil => intro k hk _ _; obtain rfl : k = 0 := (by simpa using hk); exact ⟨rfl, rfl⟩
  | cons x r ih =>
    intro k hk h1 h2
    cases k with
    | zero =>
      have hx := h2 (by simp)
      simp only [List.getElem_cons_zero] at hx
      rw [M3.runT_no r hx, M3.joinT_no r hx]
      exact ⟨rfl, rfl⟩
    | succ k =>
      have hx := h1 0 (by simp) (by omega)
      simp only [List.getElem_cons_zero] at hx
      obtain ⟨h3, h4⟩ := ih k (by simpa using hk) (fun i hi hik => by have := h1 (i + 1) (by simpa using hi) (by omega); simpa using this) (fun h => by have := h2 (by simpa using h); simpa using this)
      rw [M3.runT_yes r hx, M3.joinT_yes r hx, h3, h4]
      refine ⟨rfl, ?_⟩
      unfold M3.cat catK
      simp
def txtN (l : List Nd) : Nat := (l.map fun x => x.text.size).sum
theorem txtN_cons (x : Nd) (l : List Nd) : txtN (x :: l) = x.text.size + txtN l := by simp [txtN]
theorem txtN_append (a b : List Nd) : txtN (a ++ b) = txtN a + txtN b := by simp [txtN]
theorem txtN_mem {l : List Nd} {x : Nd} (h : x ∈ l) : x.text.size ≤ txtN l := by
  induction l with
  | nil => cases h
  | cons y r ih =>
    rw [txtN_cons]
    rcases List.mem_cons.1 h with rfl | h
    · omega
    · have := ih h; omega
theorem txtV_map (L : List NV) : txtV L = txtN (L.map NV.x) := by simp [txtV, txtN, Function.comp_def]
theorem catK_len (l : List Nd) (k : Nat) : (catK l k).length ≤ txtN l := by
  have h : ∀ m : List Nd, (m.flatMap fun x => x.text.data.toList).length = txtN m := by
    intro m
    induction m with
    | nil => rfl
    | cons x r ih => rw [List.flatMap_cons, List.length_append, ih, txtN_cons]; rfl
  unfold catK
  rw [h]
  have : txtN l = txtN (l.take k) + txtN (l.drop k) := by rw [← txtN_append, List.take_append_drop]
  omega
def JoinPost (l : List Nd) (w : World) (e : Ending) (w' : World) : Prop := e = .returned (.tuple #[.string (M3.joinT l), .int .i64 (M3.runT l : Int)]) ∧ Below w.heap.size w w'


end Go.Proofs.Ytlknmnldblodbaa

/- Package dom: Clone. -/
namespace Go.Proofs.Ytlknmnldblodbaa
open Go.RowKit

/-- Nodes few enough. -/
abbrev Few6 (l : List Nd) : Prop := M3.weight l ≤ 1000000

/-- Five cells laid into a row at element i, and the state of the row while it is filled. -/
theorem set5 (done Z : List Value) (i : Nat) (c0 c1 c2 c3 c4 z0 z1 z2 z3 z4 : Value) (hd : done.length = i * 5) :
    (((((done ++ z0 :: z1 :: z2 :: z3 :: z4 :: Z).set (i * 5) c0).set (i * 5 + 1) c1).set (i * 5 + 2) c2).set (i * 5 + 3) c3).set (i * 5 + 4) c4 = done ++ [c0, c1, c2, c3, c4] ++ Z := by
  rw [← hd]
  simp
theorem own_cell {w : World} {B : Nat} {e : TypeId} {k n g cap : Nat} {xs : List Value} (h : w.ownsRow B e k (.slice (some ⟨g, 0, none⟩) n cap) n xs) (j : Nat) (u : Value) (hu : xs[j]? = some u) : w.cell? ⟨g, j, none⟩ = some u ∧ w.frozen? ⟨g, j, none⟩ = false := by
  refine ⟨by have := h.cells (g := g) rfl j u hu; rwa [add_plain', Nat.zero_add] at this, ?_⟩
  rcases h.2 with ⟨h', _⟩ | ⟨g', cap', cur, h', _, hg, _⟩
  · cases h'
  · cases h'
    simp [World.frozen?, hg]
def put5 (w : World) (g i : Nat) (c0 c1 c2 c3 c4 : Value) : World := ((((w.setCell ⟨g, i * 5, none⟩ c0).setCell ⟨g, i * 5 + 1, none⟩ c1).setCell ⟨g, i * 5 + 2, none⟩ c2).setCell ⟨g, i * 5 + 3, none⟩ c3).setCell ⟨g, i * 5 + 4, none⟩ c4
theorem put5_own {w : World} {B : Nat} {e : TypeId} {n g cap i : Nat} {done Z : List Value} {z0 z1 z2 z3 z4 : Value} (h : w.ownsRow B e 5 (.slice (some ⟨g, 0, none⟩) n cap) n (done ++ z0 :: z1 :: z2 :: z3 :: z4 :: Z)) (hd : done.length = i * 5) (c0 c1 c2 c3 c4 : Value) :
    (put5 w g i c0 c1 c2 c3 c4).ownsRow B e 5 (.slice (some ⟨g, 0, none⟩) n cap) n (done ++ [c0, c1, c2, c3, c4] ++ Z) := by
  have := ((((h.stored (i * 5) c0).1.stored (i * 5 + 1) c1).1.stored (i * 5 + 2) c2).1.stored (i * 5 + 3) c3).1.stored (i * 5 + 4) c4
  rw [set5 _ _ _ _ _ _ _ _ _ _ _ _ _ hd] at this
  exact this.1
theorem put5_far (w : World) (g i : Nat) (c0 c1 c2 c3 c4 : Value) (b : Nat) (h : b ≠ g) : (put5 w g i c0 c1 c2 c3 c4).heap[b]? = w.heap[b]? := by
  unfold put5
  rw [Below.heap_setCell _ _ _ _ (by simpa using h), Below.heap_setCell _ _ _ _ (by simpa using h), Below.heap_setCell _ _ _ _ (by simpa using h), Below.heap_setCell _ _ _ _ (by simpa using h), Below.heap_setCell _ _ _ _ (by simpa using h)]
theorem put5_size (w : World) (g i : Nat) (c0 c1 c2 c3 c4 : Value) : (put5 w g i c0 c1 c2 c3 c4).heap.size = w.heap.size := by simp [put5, World.setCell]
theorem put5_below {B : Nat} {a w : World} (h : Below B a w) (g i : Nat) (c0 c1 c2 c3 c4 : Value) (hg : B ≤ g) : Below B a (put5 w g i c0 c1 c2 c3 c4) :=
  ((((h.setCell (p := ⟨g, i * 5, none⟩) hg c0).setCell (p := ⟨g, i * 5 + 1, none⟩) hg c1).setCell (p := ⟨g, i * 5 + 2, none⟩) hg c2).setCell (p := ⟨g, i * 5 + 3, none⟩) hg c3).setCell (p := ⟨g, i * 5 + 4, none⟩) hg c4
theorem weight_le {x : Nd} {l : List Nd} (h : x ∈ l) : 1 + x.attrs.length + M3.weight x.kids ≤ M3.weight l := by
  induction l with
  | nil => cases h
  | cons y r ih =>
    rw [M3.weight_cons]
    rcases List.mem_cons.1 h with rfl | h
    · omega
    · have := ih h; omega


end Go.Proofs.Ytlknmnldblodbaa

/- Package dom: Merge. -/
namespace Go.Proofs.Ytlknmnldblodbaa
open Go.RowKit

theorem Fresh.nil (w : World) (B : Nat) : Fresh w B (.slice none 0 0) [] := ⟨[], [], World.ownsRow_nil _ _ _ _, OwnC.nil _, Span.nil _ _⟩
theorem Fresh.base {w : World} {B B' : Nat} {v : Value} {l : List Nd} (h : Fresh w B v l) (hb : B' ≤ B) : Fresh w B' v l := by
  obtain ⟨zs, F, h1, h2, h3⟩ := h
  exact ⟨zs, F, own_base h1 (fun g hg => by have := (h1.lt g hg).1; omega), h2, h3.mono hb (Nat.le_refl _)⟩
theorem Fresh.keep {w w' : World} {B : Nat} {v : Value} {l : List Nd} (h : Fresh w B v l) (hk : ∀ b, B ≤ b → b < w.heap.size → w'.heap[b]? = w.heap[b]?) (hz : w.heap.size ≤ w'.heap.size) : Fresh w' B v l := by
  obtain ⟨zs, F, h1, h2, h3⟩ := h
  exact ⟨zs, F, own_keep h1 (fun g hg => hk g (h1.lt g hg).1 (h1.lt g hg).2), OwnC.keep _ _ _ (fun b hb => hk b (h3.2 b (by simp [hb])).1 (h3.2 b (by simp [hb])).2) h2, h3.mono (Nat.le_refl _) hz⟩
/-- 'append(out, x)' behind nodes that the call has made, nothing shared. -/
theorem Fresh.snoc {W w5 : World} {B mid g n cap : Nat} {u : Value} {A : List Nd} {zs : List Value} {F : List Nat} {x : Nd} {va vk : Value} {zs2 : List Value} {F2 : List Nat} (hn : n = A.length + 1)
    (hown5 : w5.ownsRow B 40 5 (.slice (some ⟨g, 0, none⟩) n cap) n (zs ++ x.cells va vk)) (hgrow : W.grownBy w5 u.ownBlock) (hat : u.ownBlock = some g ∨ W.heap.size ≤ g)
    (hA : OwnC W zs A F) (hsp : Span B mid (u.ownBlock.toList ++ F))
    (ha : W.ownsRow 0 44 2 va x.attrs.length (cellsA x.attrs)) (hk : W.ownsRow 0 40 5 vk x.kids.length zs2) (hc : OwnC W zs2 x.kids F2) (hsp2 : Span mid W.heap.size (va.ownBlock.toList ++ (vk.ownBlock.toList ++ F2))) (hBm : B ≤ mid) (hm : mid ≤ W.heap.size) :
    Fresh w5 B (.slice (some ⟨g, 0, none⟩) n cap) (A ++ [x]) := by
  subst hn
  have hall : Span B W.heap.size (u.ownBlock.toList ++ F ++ (va.ownBlock.toList ++ (vk.ownBlock.toList ++ F2))) := Span.append hsp hsp2 hBm hm
  have hg5 := (hown5.lt g rfl)
  have hkeep : ∀ b ∈ F ++ (va.ownBlock.toList ++ (vk.ownBlock.toList ++ F2)), w5.heap[b]? = W.heap[b]? := by
    intro b hb
    refine hgrow.block b (hall.2 b (by rcases List.mem_append.1 hb with h | h <;> simp [h])).2 (fun e => ?_)
    have hnd := hall.1
    rw [List.append_assoc] at hnd
    have := (List.nodup_append.1 hnd).2.2 b (by rw [← e]; simp) b hb
    exact this rfl
  have hgn : g ∉ F ++ (va.ownBlock.toList ++ (vk.ownBlock.toList ++ F2)) := by
    intro hb
    rcases hat with h | h
    · have hnd := hall.1
      rw [List.append_assoc] at hnd
      exact (List.nodup_append.1 hnd).2.2 g (by rw [h]; simp) g hb rfl
    · have := (hall.2 g (by rcases List.mem_append.1 hb with h | h <;> simp [h])).2
      omega
  refine ⟨zs ++ x.cells va vk, F ++ (va.ownBlock.toList ++ (vk.ownBlock.toList ++ F2)), by simpa using hown5, ?_, ?_⟩
  · refine OwnC.append ?_ _ _ _ (OwnC.keep _ _ _ (fun b hb => hkeep b (by simp [hb])) hA)
    exact OwnC.cons_iff.2 ⟨va, vk, zs2, [], F2, [], by simp, own_keep ha (fun b hb => hkeep b (by simp [hb])), own_keep hk (fun b hb => hkeep b (by simp [hb])), by simp, OwnC.keep _ _ _ (fun b hb => hkeep b (by simp [hb])) hc, OwnC.nil _⟩
  · have hs := hgrow.size
    refine ⟨?_, fun b hb => ?_⟩
    · show (g :: (F ++ (va.ownBlock.toList ++ (vk.ownBlock.toList ++ F2)))).Nodup
      refine List.nodup_cons.2 ⟨hgn, ?_⟩
      have hnd := hall.1
      rw [List.append_assoc] at hnd
      exact (List.nodup_append.1 hnd).2.1
    · rcases List.mem_append.1 hb with h | h
      · have : b = g := by simpa [Value.ownBlock] using h
        subst this
        exact hg5
      · have := hall.2 b (by rcases List.mem_append.1 h with h | h <;> simp [h])
        omega

theorem front_le (l : List Nd) : ∀ n, l.length ≤ n → (M3.front l).length ≤ l.length := by
  intro n
  induction n generalizing l with
  | zero => intro h; obtain rfl : l = [] := List.eq_nil_of_length_eq_zero (by omega); rw [M3.front_nil]; exact Nat.le_refl _
  | succ n ih =>
    intro h
    cases l with
    | nil => rw [M3.front_nil]; exact Nat.le_refl _
    | cons x r =>
      cases ht : M3.isText x
      · rw [M3.front_no r ht, List.length_cons, List.length_cons]; have := ih r (by simpa using h); omega
      · rw [M3.front_yes r ht, M3.runT_yes r ht, List.length_cons, List.length_cons, List.drop_succ_cons]
        have h2 : (r.drop (M3.runT r)).length ≤ r.length := by simp
        have := ih (r.drop (M3.runT r)) (by simp at h ⊢; omega)
        omega
end Go.Proofs.Ytlknmnldblodbaa

/- The reference of layer 3: merged, of nodes that the call has made, nothing shared. -/
namespace Go.Proofs.Ytlknmnldblodbaa
open Go.RowKit

theorem OwnC.nv {w : World} (l : List Nd) : ∀ (xs : List Value) (F : List Nat), OwnC w xs l F → ∃ L : List NV, L.map NV.x = l ∧ xs = cellsV L ∧ ∀ b ∈ L, b.ok := by
  induction l using Nd.ind with
  | h0 => intro xs F h; rw [OwnC] at h; exact ⟨[], rfl, h.1, fun b hb => by cases hb⟩
  | h1 k n ats t ks r _ ih2 =>
    intro xs F h
    obtain ⟨va, vk, zs, ys, F1, F2, rfl, h2, h3, rfl, h5, h6⟩ := OwnC.cons_iff.1 h
    obtain ⟨L, rfl, rfl, hL⟩ := ih2 _ _ h6
    refine ⟨⟨.mk k n ats t ks, va, vk⟩ :: L, rfl, rfl, fun b hb => ?_⟩
    rcases List.mem_cons.1 hb with rfl | hb
    · exact ⟨own_slice h2, own_slice h3⟩
    · exact hL b hb
theorem OwnC.one {w : World} {b : NV} {F : List Nat} (h : OwnC w b.cells [b.x] F) : ∃ zs F1, w.ownsRow 0 44 2 b.va b.x.attrs.length (cellsA b.x.attrs) ∧ w.ownsRow 0 40 5 b.vk b.x.kids.length zs ∧ F = b.va.ownBlock.toList ++ (b.vk.ownBlock.toList ++ F1) ∧ OwnC w zs b.x.kids F1 := by
  obtain ⟨va, vk, zs, ys, F1, F2, h1, h2, h3, rfl, h5, h6⟩ := OwnC.cons_iff.1 h
  rw [OwnC] at h6
  obtain ⟨rfl, rfl⟩ := h6
  obtain ⟨x, va', vk'⟩ := b
  cases h1
  exact ⟨zs, F1, h2, h3, by simp, h5⟩
theorem OwnC.mk_one {w : World} {b : NV} {zs : List Value} {F1 : List Nat} (h2 : w.ownsRow 0 44 2 b.va b.x.attrs.length (cellsA b.x.attrs)) (h3 : w.ownsRow 0 40 5 b.vk b.x.kids.length zs) (h5 : OwnC w zs b.x.kids F1) :
    OwnC w b.cells [b.x] (b.va.ownBlock.toList ++ (b.vk.ownBlock.toList ++ F1)) :=
  OwnC.cons_iff.2 ⟨b.va, b.vk, zs, [], F1, [], by simp, h2, h3, by simp, h5, OwnC.nil _⟩
theorem OwnC.split {w : World} {m : List Nd} {ys : List Value} (l : List Nd) : ∀ (xs : List Value) (F : List Nat), xs.length = l.length * 5 → OwnC w (xs ++ ys) (l ++ m) F → ∃ F1 F2, F = F1 ++ F2 ∧ OwnC w xs l F1 ∧ OwnC w ys m F2 := by
  induction l using Nd.ind with
  | h0 =>
    intro xs F hl h
    obtain rfl : xs = [] := List.eq_nil_of_length_eq_zero (by simpa using hl)
    exact ⟨[], F, rfl, OwnC.nil _, h⟩
  | h1 k n ats t ks r _ ih2 =>
    intro xs F hl h
    obtain ⟨va, vk, zs, ys', F1, F2, h1, h2, h3, rfl, h5, h6⟩ := OwnC.cons_iff.1 h
    obtain ⟨xs', rfl⟩ : ∃ xs', xs = (Nd.mk k n ats t ks).cells va vk ++ xs' := by
      match xs, hl, h1 with
      | c0 :: c1 :: c2 :: c3 :: c4 :: xs', _, h1 =>
        simp only [List.cons_append, List.cons.injEq, List.nil_append] at h1
        obtain ⟨rfl, rfl, rfl, rfl, rfl, _⟩ := h1
        exact ⟨xs', rfl⟩
      | [], hl, _ | [_], hl, _ | [_, _], hl, _ | [_, _, _], hl, _ | [_, _, _, _], hl, _ => exact absurd hl (by simp <;> omega)
    rw [List.append_assoc] at h1
    have h1' : xs' ++ ys = ys' := List.append_cancel_left h1
    subst h1'
    obtain ⟨G1, G2, rfl, g1, g2⟩ := ih2 xs' F2 (by simp at hl; omega) h6
    exact ⟨_, G2, (by rw [← List.append_assoc]), OwnC.cons_iff.2 ⟨va, vk, zs, xs', F1, G1, rfl, h2, h3, rfl, h5, g1⟩, g2⟩
theorem OwnC.text {w : World} {b : NV} {F : List Nat} (t : ByteArray) (h : OwnC w b.cells [b.x] F) : OwnC w (b.withText t).cells [(b.withText t).x] F := by
  obtain ⟨zs, F1, h1, h2, rfl, h4⟩ := h.one
  obtain ⟨⟨k, n, ats, t0, ks⟩, va, vk⟩ := b
  exact OwnC.mk_one (b := ⟨.mk k n ats t ks, va, vk⟩) h1 h2 h4
theorem ownC_merge {w : World} : ∀ (L out : List NV) (F Fo : List Nat), OwnC w (cellsV L) (L.map NV.x) F → OwnC w (cellsV out) (out.map NV.x) Fo → ∃ F', OwnC w (cellsV (L.foldl pushV out)) ((L.foldl pushV out).map NV.x) F' ∧ F'.Sublist (Fo ++ F) := by
  intro L
  induction L with
  | nil => intro out F Fo h ho; rw [OwnC.eq_def] at h; exact ⟨Fo, ho, by simp⟩
  | cons b r ih =>
    intro out F Fo h ho
    rw [cellsV_cons, ← List.singleton_append, List.map_append] at h
    obtain ⟨Fb, Fr, rfl, hb, hr⟩ := OwnC.split [b.x] b.cells F rfl h
    rw [List.foldl_cons]
    have key : ∃ Fp, OwnC w (cellsV (pushV out b)) ((pushV out b).map NV.x) Fp ∧ Fp.Sublist (Fo ++ Fb) := by
      cases hbr : bareV b
      · rcases List.eq_nil_or_concat out with rfl | ⟨o, y, rfl⟩
        · rw [pushV_nil hbr, cellsV_one]
          exact ⟨Fb, hb, List.sublist_append_right _ _⟩
        · rw [List.concat_eq_append] at ho ⊢
          rw [pushV_snoc hbr]
          split
          · rw [cellsV_snoc, List.map_append] at ho
            obtain ⟨G1, G2, rfl, g1, g2⟩ := OwnC.split (o.map NV.x) (cellsV o) Fo (by rw [cellsV_len, List.length_map]) ho
            refine ⟨G1 ++ G2, ?_, List.sublist_append_left _ _⟩
            rw [cellsV_snoc, List.map_append]
            exact OwnC.append (OwnC.text _ g2) _ _ _ g1
          · refine ⟨Fo ++ Fb, ?_, List.Sublist.refl _⟩
            rw [cellsV_snoc, List.map_append]
            exact OwnC.append hb _ _ _ ho
      · rw [pushV_bare hbr]
        exact ⟨Fo, ho, List.sublist_append_left _ _⟩
    obtain ⟨Fp, hp, hs⟩ := key
    obtain ⟨F', h1, h2⟩ := ih (pushV out b) Fr Fp hr hp
    refine ⟨F', h1, h2.trans ?_⟩
    rw [← List.append_assoc]
    exact List.Sublist.append hs (List.Sublist.refl _)

def FreshB (B : Nat) (l : List Nd) (w : World) (e : Ending) (w' : World) : Prop := ∃ v', e = .returned v' ∧ Fresh w' B v' l ∧ Below w.heap.size w w'
theorem ref03MergeF (B : Nat) (v : Value) (l : List Nd) (w : World) (hB : B ≤ w.heap.size) (hf : Fresh w B v l) (hl : l.length ≤ 1000000) (ht : txtN l ≤ 1073741824) :
    Calls Try.prog 75 #[v] w (FreshB B (M3.merge l) w) := by
  obtain ⟨zs, F, hown, hoc, hsp⟩ := hf
  obtain ⟨L, rfl, rfl, hL⟩ := OwnC.nv _ _ _ hoc
  rw [List.length_map] at hown hl
  refine (ref03MergeV (fun b => b < w.heap.size) v L w (fun _ h => h) (Row.own hown (fun g hg => (hown.lt g hg).2)) hL hl (by rw [← txtV_map] at ht; exact ht)).mono ?_
  rintro e w1 ⟨v1, rfl, hown1, hb⟩
  obtain ⟨F', h1, h2⟩ := ownC_merge L [] F [] hoc (OwnC.nil _)
  rw [List.nil_append] at h2
  refine ⟨v1, rfl, ⟨cellsV (mergeV L), F', ?_, ?_, ?_⟩, hb⟩
  · rw [← mergeV_map, List.length_map]; exact own_base hown1 (fun g hg => by have := (hown1.lt g hg).1; omega)
  · rw [← mergeV_map]
    exact OwnC.keep _ _ _ (fun b hb' => hb.block b (hsp.2 b (List.mem_append_right _ (h2.subset hb'))).2) h1
  · have hz := hb.size
    have s1 := Span.own hown1
    refine ⟨List.nodup_append.2 ⟨s1.1, h2.nodup (List.nodup_append.1 hsp.1).2.1, fun a ha b hb' e => ?_⟩, fun b hb' => ?_⟩
    · have h3 := (s1.2 a ha).1
      have h4 := (hsp.2 b (List.mem_append_right _ (h2.subset hb'))).2
      omega
    · rcases List.mem_append.1 hb' with h | h
      · have := s1.2 b h; omega
      · have := hsp.2 b (List.mem_append_right _ (h2.subset h)); omega
end Go.Proofs.Ytlknmnldblodbaa

/- Package dom: Merge, walked. -/
namespace Go.Proofs.Ytlknmnldblodbaa
open Go.RowKit


end Go.Proofs.Ytlknmnldblodbaa

/- Package dom: the same. -/
namespace Go.Proofs.Ytlknmnldblodbaa
open Go.RowKit

def oneSame (x y : Nd) : Bool := x.kind == y.kind && M3.eqB x.name y.name && M3.eqB x.text y.text && M3.sameA x.attrs y.attrs && M3.sameN x.kids y.kids
theorem sameA_drop (a b : List Att) (i : Nat) (h : i < a.length) (h2 : i < b.length) : M3.sameA (a.drop i) (b.drop i) = (M3.eqB a[i].name b[i].name && M3.eqB a[i].value b[i].value && M3.sameA (a.drop (i + 1)) (b.drop (i + 1))) := by
  rw [List.drop_eq_getElem_cons h, List.drop_eq_getElem_cons h2, M3.sameA]
theorem sameN_drop (a b : List Nd) (i : Nat) (h : i < a.length) (h2 : i < b.length) : M3.sameN (a.drop i) (b.drop i) = (oneSame a[i] b[i] && M3.sameN (a.drop (i + 1)) (b.drop (i + 1))) := by
  rw [List.drop_eq_getElem_cons h, List.drop_eq_getElem_cons h2, M3.sameN_cons]; rfl


end Go.Proofs.Ytlknmnldblodbaa

/- Package dom: the same, walked on. -/
namespace Go.Proofs.Ytlknmnldblodbaa
open Go.RowKit

def SamePost (r : Bool) (w : World) (e : Ending) (w' : World) : Prop := e = .returned (.bool r) ∧ Below w.heap.size w w'


end Go.Proofs.Ytlknmnldblodbaa

/- Package dom: Same. -/
namespace Go.Proofs.Ytlknmnldblodbaa
open Go.RowKit


end Go.Proofs.Ytlknmnldblodbaa

/- The reference of layer 3: the same. -/
namespace Go.Proofs.Ytlknmnldblodbaa
open Go.RowKit



end Go.Proofs.Ytlknmnldblodbaa

/- Layer 3: few nodes are few, and light. -/
namespace Go.Proofs.Ytlknmnldblodbaa
open Go.RowKit

theorem few_size (s : ByteArray) : (M3.few s).size ≤ 30 := by
  unfold M3.few
  split
  · simp [ByteArray.size_extract]; omega
  · omega
theorem cut_weight (l : List Nd) (m : Nat) : M3.weight (M3.cut l m).1 + 6 * (M3.cut l m).2 ≤ 6 * m := by
  induction l using Nd.ind generalizing m with
  | h0 => rw [M3.cut_nil, M3.weight_nil]; simp
  | h1 k n a t ks r ih1 ih2 =>
    cases m with
    | zero => rw [M3.cut_zero, M3.weight_nil]; simp
    | succ m =>
      rw [M3.cut_cons, M3.weight_cons]
      have h1 := ih1 m
      have h2 := ih2 (M3.cut ks m).2
      simp only [Nd.kids, Nd.attrs]
      have h3 : ((a.take 5).map M3.fewA).length ≤ 5 := by simp; omega
      omega
theorem fewN_weight (l : List Nd) : M3.weight (fewN l) ≤ 240 := by
  have := cut_weight l 40
  unfold fewN
  omega
theorem cut_fit (l : List Nd) (m : Nat) (hm : m ≤ 1000) : FitN (M3.cut l m).1 := by
  induction l using Nd.ind generalizing m with
  | h0 => rw [M3.cut_nil]; exact fitN_nil
  | h1 k n a t ks r ih1 ih2 =>
    cases m with
    | zero => rw [M3.cut_zero]; exact fitN_nil
    | succ m =>
      rw [M3.cut_cons]
      have h1 := cut_weight ks m
      have h3 : ((a.take 5).map M3.fewA).length ≤ 5 := by simp; omega
      refine fitN_cons.2 ⟨⟨Nat.le_trans (few_size _) (by omega), Nat.le_trans (few_size _) (by omega), ?_, ?_⟩, ih1 m (by omega), ih2 _ (by have := M3.cut_le ks m; simp only [Nd.kids]; omega)⟩
      · intro b hb
        simp only [Nd.attrs] at hb
        obtain ⟨c, _, rfl⟩ := List.mem_map.1 hb
        exact ⟨Nat.le_trans (few_size _) (by omega), Nat.le_trans (few_size _) (by omega)⟩
      · simp only [Nd.attrs, Nd.kids]
        omega
theorem fewN_fit (l : List Nd) : FitN (fewN l) := cut_fit l 40 (by omega)
theorem fitN_append {a b : List Nd} : FitN (a ++ b) ↔ FitN a ∧ FitN b := by
  induction a with
  | nil => simp [fitN_nil]
  | cons x r ih => rw [List.cons_append, fitN_cons, fitN_cons, ih]; simp [and_assoc]
theorem fitN_take {l : List Nd} (h : FitN l) (k : Nat) : FitN (l.take k) := (fitN_append.1 (by rw [List.take_append_drop]; exact h : FitN (l.take k ++ l.drop k))).1
theorem fitN_drop {l : List Nd} (h : FitN l) (k : Nat) : FitN (l.drop k) := (fitN_append.1 (by rw [List.take_append_drop]; exact h : FitN (l.take k ++ l.drop k))).2
end Go.Proofs.Ytlknmnldblodbaa

/- Layer 3: merged nodes are the document's, and merged again the same. -/
namespace Go.Proofs.Ytlknmnldblodbaa
open Go.RowKit

theorem weight_push (out : List Nd) (x : Nd) : M3.weight (M3.push out x) ≤ M3.weight out + M3.weight [x] := by
  cases h : M3.bareB x
  · rcases List.eq_nil_or_concat out with rfl | ⟨o, y, rfl⟩
    · rw [M3.push_none h]; omega
    · rw [List.concat_eq_append, M3.push_snoc h]
      split
      · rw [M3.weight_append, M3.weight_append]
        have : M3.weight [M3.withText y (M3.cat y.text x.text)] = M3.weight [y] := by
          rw [M3.weight_cons, M3.weight_cons, M3.withText_attrs, M3.withText_kids]
        omega
      · rw [M3.weight_append]; omega
  · rw [M3.push_bare h]; omega
theorem weight_merge (l : List Nd) : M3.weight (M3.merge l) ≤ M3.weight l := by
  have key : ∀ (l out : List Nd), M3.weight (l.foldl M3.push out) ≤ M3.weight out + M3.weight l := by
    intro l
    induction l with
    | nil => intro out; rw [M3.weight_nil]; exact Nat.le_refl _
    | cons x r ih =>
      intro out
      have h1 := ih (M3.push out x)
      have h2 := weight_push out x
      have h3 : M3.weight (x :: r) = M3.weight [x] + M3.weight r := by rw [← List.singleton_append, M3.weight_append]
      rw [List.foldl_cons, h3]
      omega
  have := key l []
  rw [M3.weight_nil] at this
  simpa [M3.merge] using this
theorem txtN_push (out : List Nd) (x : Nd) : txtN (M3.push out x) ≤ txtN out + x.text.size := by
  cases h : M3.bareB x
  · rcases List.eq_nil_or_concat out with rfl | ⟨o, y, rfl⟩
    · rw [M3.push_none h, txtN_cons]; exact Nat.le_of_eq (by rw [Nat.add_comm])
    · rw [List.concat_eq_append, M3.push_snoc h]
      split
      · rw [txtN_append, txtN_append, txtN_cons, txtN_cons, M3.withText_text, cat_size]
        have : txtN [] = 0 := rfl
        omega
      · rw [txtN_append, txtN_cons]
        have : txtN [] = 0 := rfl
        omega
  · rw [M3.push_bare h]; omega
theorem txtN_merge (l : List Nd) : txtN (M3.merge l) ≤ txtN l := by
  have key : ∀ (l out : List Nd), txtN (l.foldl M3.push out) ≤ txtN out + txtN l := by
    intro l
    induction l with
    | nil => intro out; exact Nat.le_add_right _ _
    | cons x r ih =>
      intro out
      have h1 := ih (M3.push out x)
      have h2 := txtN_push out x
      rw [List.foldl_cons, txtN_cons]
      omega
  have := key l []
  have h0 : txtN ([] : List Nd) = 0 := rfl
  rw [h0] at this
  simpa [M3.merge] using this
theorem txtN_fit (l : List Nd) (b : Nat) (h : ∀ x ∈ l, x.text.size ≤ b) : txtN l ≤ l.length * b := by
  induction l with
  | nil => exact Nat.zero_le _
  | cons x r ih =>
    rw [txtN_cons, List.length_cons, Nat.add_mul]
    have h1 := h x (by simp)
    have h2 := ih (fun y hy => h y (by simp [hy]))
    omega
theorem cut_text (l : List Nd) (m : Nat) : ∀ x ∈ (M3.cut l m).1, x.text.size ≤ 30 := by
  induction l generalizing m with
  | nil => intro x hx; rw [M3.cut_nil] at hx; cases hx
  | cons y r ih =>
    intro x hx
    cases m with
    | zero => rw [M3.cut_zero] at hx; cases hx
    | succ m =>
      rw [M3.cut_cons] at hx
      rcases List.mem_cons.1 hx with rfl | hx
      · exact few_size _
      · exact ih _ x hx
theorem fewN_txt (l : List Nd) : txtN (fewN l) ≤ 7200 := by
  have h1 := txtN_fit (fewN l) 30 (cut_text l 40)
  have h2 := M3.length_le_weight (fewN l)
  have h3 := fewN_weight l
  omega

/-- Nodes that a call hands back, wherever they stand. -/
def RepPost (l : List Nd) (w : World) (e : Ending) (w' : World) : Prop := ∃ v', e = .returned v' ∧ RepN (fun b => b < w'.heap.size) w' v' l ∧ Below w.heap.size w w'
theorem ref03Merge (S : Nat → Prop) (v : Value) (l : List Nd) (w : World) (hS : ∀ b, S b → b < w.heap.size) (hr : RepN S w v l) (hl : l.length ≤ 1000000) (ht : txtN l ≤ 1073741824) :
    Calls Try.prog 75 #[v] w (RepPost (M3.merge l) w) := by
  obtain ⟨xs, hrow, hrc⟩ := hr
  obtain ⟨L, rfl, rfl, hL⟩ := RepC.nv _ _ hrc
  rw [List.length_map] at hrow hl
  refine (ref03MergeV S v L w hS hrow (fun b hb => (hL b hb).ok) hl (by rw [txtV_map]; exact ht)).mono ?_
  rintro e w1 ⟨v1, rfl, hown, hb⟩
  refine ⟨v1, rfl, ?_, hb⟩
  rw [← mergeV_map]
  refine ⟨cellsV (mergeV L), by rw [List.length_map]; exact Row.own hown (fun g hg => (hown.lt g hg).2), RepC.of_nv ?_⟩
  have hP : ∀ b ∈ mergeV L, RepV (fun b => b < w1.heap.size) w1 b.x b.va b.vk := by
    have key : ∀ (l out : List NV), (∀ b ∈ l, RepV S w b.x b.va b.vk) → (∀ b ∈ out, RepV S w b.x b.va b.vk) → ∀ b ∈ l.foldl pushV out, RepV S w b.x b.va b.vk := by
      intro l
      induction l with
      | nil => intro out _ ho; exact ho
      | cons x r ih =>
        intro out hl ho
        rw [List.foldl_cons]
        refine ih _ (fun z hz => hl z (by simp [hz])) ?_
        have hx := hl x (by simp)
        cases hb : bareV x
        · rcases List.eq_nil_or_concat out with rfl | ⟨o, y, rfl⟩
          · rw [pushV_nil hb]; simpa using hx
          · rw [List.concat_eq_append] at ho ⊢
            rw [pushV_snoc hb]
            have hy := ho y (by simp)
            split
            · intro z hz
              rcases List.mem_append.1 hz with hz | hz
              · exact ho z (by simp [hz])
              · simp at hz; subst hz
                exact ⟨by show Row _ _ _ _ (M3.withText y.x _).attrs.length (cellsA (M3.withText y.x _).attrs); rw [M3.withText_attrs]; exact hy.1, by show RepN _ _ _ (M3.withText y.x _).kids; rw [M3.withText_kids]; exact hy.2⟩
            · intro z hz
              rcases List.mem_append.1 hz with hz | hz
              · exact ho z hz
              · simp at hz; subst hz; exact hx
        · rw [pushV_bare hb]; exact ho
    exact fun b hb' => ((key L [] hL (fun b h => by cases h) b hb').below hS hb).mono (fun c hc => by have := hS c hc; have := hb.size; omega)
  exact hP


end Go.Proofs.Ytlknmnldblodbaa

/- The reference of layer 3: which nodes may be. -/
namespace Go.Proofs.Ytlknmnldblodbaa
open Go.RowKit

def seenA (ats : List Att) (i : Nat) : List ByteArray := (ats.take i).map Att.name
theorem seenA_len (ats : List Att) (i : Nat) (h : i ≤ ats.length) : (seenA ats i).length = i := by simp [seenA]; omega
theorem seenA_get (ats : List Att) (i k : Nat) (hk : k < i) (hi : i ≤ ats.length) : (seenA ats i)[k]? = some ats[k].name := by
  unfold seenA
  rw [List.getElem?_map, List.getElem?_take, if_pos hk, List.getElem?_eq_getElem (by omega)]
  rfl
theorem names_at' (ats : List Att) (i : Nat) (h : i < ats.length) : M3.namesE (seenA ats i) (ats.drop i) = if M3.attributedB ats[i].name.data.toList then (if (seenA ats i).any (M3.eqB ats[i].name) then 5 else M3.namesE (seenA ats (i + 1)) (ats.drop (i + 1))) else 4 := by
  have htk : seenA ats (i + 1) = seenA ats i ++ [ats[i].name] := by
    unfold seenA
    rw [List.take_succ_eq_append_getElem h, List.map_append]; rfl
  rw [List.drop_eq_getElem_cons h, M3.namesE, htk]
theorem values_at (ats : List Att) (i : Nat) (h : i < ats.length) : M3.valuesE (ats.drop i) = if M1.isB ats[i].value.data.toList then M3.valuesE (ats.drop (i + 1)) else 2 := by
  rw [List.drop_eq_getElem_cons h, M3.valuesE]
theorem any_at {l : List ByteArray} {p : ByteArray → Bool} {k : Nat} {s : ByteArray} (h : l[k]? = some s) (hp : p s = true) : l.any p = true :=
  List.any_eq_true.2 ⟨s, List.mem_of_getElem? h, hp⟩
theorem eqB_comm (s t : ByteArray) : M3.eqB s t = (t.toList == s.toList) := by
  unfold M3.eqB
  rw [Bool.eq_iff_iff, beq_iff_eq, beq_iff_eq]
  exact eq_comm

def IntPost (n : Int) (w : World) (e : Ending) (w' : World) : Prop := e = .returned (.int .i64 n) ∧ Below w.heap.size w w'


end Go.Proofs.Ytlknmnldblodbaa

/- The reference of layer 3: which nodes may be, walked on. -/
namespace Go.Proofs.Ytlknmnldblodbaa
open Go.RowKit


end Go.Proofs.Ytlknmnldblodbaa

/- Layer 3: texts side by side are merged, and then may be. -/
namespace Go.Proofs.Ytlknmnldblodbaa
open Go.RowKit Go.ChangeShapes Go.WideShapes

section
variable {H : Type} {enc : TypeId × Value → H} {w : World} {base : Nat} {spare : Nat → Bool} {held : Bool}
theorem open_texts {fuel : Nat} {cs : List Value} {x : DataW H × List MemPlace} (h : DataW.trod enc Try.prog w base spare held fuel 104 cs = some x) :
    ∃ (v : Value) (L : List ByteArray), cs = [v] ∧ Row (fun b => b < w.heap.size) w 1 v L.length (L.flatMap fun s => [.string s]) ∧ ∀ s ∈ L, s.size ≤ 9223372036854775807 :=
  open_rows Try.underlying104 (cell1 9 (Or.inl rfl)) (by decide) h (fun s : ByteArray => [.string s]) (fun _ => rfl) (fun s : ByteArray => s.size ≤ 9223372036854775807) (fun n cs' y _ hl h => by
    obtain ⟨s, e, _, z⟩ := DataW.trod_string Try.underlying9 h
    unfold maxLen at z
    exact ⟨s, e, by omega⟩)
end
theorem Row.atS {S : Nat → Prop} {w : World} {a : Option Addr} {n cap : Nat} {l : List ByteArray} (h : Row S w 1 (.slice a n cap) l.length (l.flatMap fun s => [.string s])) (i : Nat) (hi : i < l.length) :
    ∃ b off, a = some ⟨b, off, none⟩ ∧ S b ∧ w.cell? ⟨b, off + i, none⟩ = some (.string l[i]) := by
  obtain ⟨h0, a', cap', h1, h2, h3, h4, h5⟩ := h
  cases h1
  obtain ⟨b, off, rfl, h7, h8⟩ := h5 (by omega)
  refine ⟨b, off, rfl, h7, h8 i _ ?_⟩
  have : l.flatMap (fun s => [Value.string s]) = l.map Value.string := (List.map_eq_flatMap).symm
  rw [this, List.getElem?_map, List.getElem?_eq_getElem hi]; rfl

theorem fitN_iff {l : List Nd} : FitN l ↔ ∀ x ∈ l, Fit1 x ∧ FitN x.kids := by
  induction l with
  | nil => simp [fitN_nil]
  | cons x r ih => rw [fitN_cons, ih]; simp; exact ⟨fun h => ⟨⟨h.1, h.2.1⟩, h.2.2⟩, fun h => ⟨h.1.1, h.1.2, h.2⟩⟩
theorem fit_merge {l : List Nd} (h : FitN l) (ht : txtN l ≤ 268435456) : FitN (M3.merge l) := by
  have h1 := M3.merge_all (P := fun x => (x.name.size ≤ 268435456 ∧ (∀ a ∈ x.attrs, a.name.size ≤ 268435456 ∧ a.value.size ≤ 268435456) ∧ 1 + x.attrs.length + M3.weight x.kids ≤ 1000000) ∧ FitN x.kids)
    (fun x y hx _ _ _ => by rw [M3.withText_name, M3.withText_attrs, M3.withText_kids]; exact hx) l (fun x hx => by have := fitN_iff.1 h x hx; exact ⟨⟨this.1.1, this.1.2.2.1, this.1.2.2.2⟩, this.2⟩)
  have h2 := txtN_merge l
  refine fitN_iff.2 (fun x hx => ?_)
  obtain ⟨⟨q1, q2, q3⟩, q4⟩ := h1 x hx
  have := txtN_mem hx
  exact ⟨⟨q1, by omega, q2, q3⟩, q4⟩

def few20 (s : ByteArray) : ByteArray := if 20 < s.size then s.extract 0 20 else s
theorem few20_size (s : ByteArray) : (few20 s).size ≤ 20 := by
  unfold few20
  split
  · simp; omega
  · omega
/-- A text that is right, a comment. -/
def txV (t : ByteArray) : NV := ⟨.mk 2 ⟨#[]⟩ [] t [], .slice none 0 0, .slice none 0 0⟩
def coV : NV := ⟨.mk 3 ⟨#[]⟩ [] ⟨#[99]⟩ [], .slice none 0 0, .slice none 0 0⟩
def Plain6 (A : List NV) : Prop := ∀ b ∈ A, (∃ t, b = txV t ∧ M1.isB t.data.toList = true ∧ t.size ≤ 80) ∨ b = coV
theorem isB_c : M1.isB [99] = true := by rw [isB_low _ _ (by decide) (by decide) (by decide), M1.isB_nil]
theorem plain_ok {A : List NV} (h : Plain6 A) : ∀ x ∈ A.map NV.x, M3.okP x := by
  intro x hx
  obtain ⟨b, hb, rfl⟩ := List.mem_map.1 hx
  rcases h b hb with ⟨t, rfl, h1, _⟩ | rfl
  · exact ⟨by unfold M3.plainB; rw [nilB_data]; rfl, h1⟩
  · refine ⟨?_, M3.mayE_nil _⟩
    show M3.oneE (.mk 3 ⟨#[]⟩ [] ⟨#[99]⟩ []) false = 0
    rw [M3.oneE_mk]
    have : M1.isB (⟨#[99]⟩ : ByteArray).data.toList = true := isB_c
    unfold M3.oneF M3.kindlyF M3.plainF
    rw [this, nilB_data, nilB_data]
    decide
theorem plain_fit {A : List NV} (h : Plain6 A) : FitN (A.map NV.x) := by
  refine fitN_iff.2 (fun x hx => ?_)
  obtain ⟨b, hb, rfl⟩ := List.mem_map.1 hx
  rcases h b hb with ⟨t, rfl, _, h2⟩ | rfl
  · exact ⟨⟨by show (⟨#[]⟩ : ByteArray).size ≤ _; decide, by show t.size ≤ _; omega, (fun a ha => by cases ha), by show 1 + 0 + M3.weight [] ≤ _; rw [M3.weight_nil]; omega⟩, fitN_nil⟩
  · exact ⟨⟨by show (⟨#[]⟩ : ByteArray).size ≤ _; decide, by show (⟨#[99]⟩ : ByteArray).size ≤ _; decide, (fun a ha => by cases ha), by show 1 + 0 + M3.weight [] ≤ _; rw [M3.weight_nil]; omega⟩, fitN_nil⟩
theorem plain_weight {A : List NV} (h : Plain6 A) : M3.weight (A.map NV.x) = A.length := by
  induction A with
  | nil => exact M3.weight_nil
  | cons b r ih =>
    rw [List.map_cons, M3.weight_cons, ih (fun c hc => h c (by simp [hc])), List.length_cons]
    rcases h b (by simp) with ⟨t, rfl, _, _⟩ | rfl
    · show 1 + 0 + M3.weight [] + r.length = _; rw [M3.weight_nil]; omega
    · show 1 + 0 + M3.weight [] + r.length = _; rw [M3.weight_nil]; omega
theorem plain_txt {A : List NV} (h : Plain6 A) : txtN (A.map NV.x) ≤ A.length * 80 := by
  have := txtN_fit (A.map NV.x) 80 (fun x hx => by
    obtain ⟨b, hb, rfl⟩ := List.mem_map.1 hx
    rcases h b hb with ⟨t, rfl, _, h2⟩ | rfl
    · exact h2
    · show (⟨#[99]⟩ : ByteArray).size ≤ _; decide)
  rwa [List.length_map] at this
theorem plain_rep {A : List NV} (S : Nat → Prop) (w : World) (h : Plain6 A) : ∀ b ∈ A, RepV S w b.x b.va b.vk := by
  intro b hb
  rcases h b hb with ⟨t, rfl, _, _⟩ | rfl
  · exact ⟨Row.nil _ _ _, RepN.nil _ _⟩
  · exact ⟨Row.nil _ _ _, RepN.nil _ _⟩


end Go.Proofs.Ytlknmnldblodbaa

/- The reference of layer 3: May. -/
namespace Go.Proofs.Ytlknmnldblodbaa
open Go.RowKit

def behind (l : List Nd) : Nat → Bool
  | 0 => false
  | i + 1 => match l[i]? with | some x => x.kind == 2 | none => false
theorem behind_succ (l : List Nd) (i : Nat) (h : i < l.length) : behind l (i + 1) = (l[i].kind == 2) := by
  show (match l[i]? with | some x => x.kind == 2 | none => false) = _
  rw [List.getElem?_eq_getElem h]
theorem may_drop (l : List Nd) (i : Nat) (h : i < l.length) : M3.mayE (behind l i) (l.drop i) = if M3.oneE l[i] (behind l i) ≠ 0 then M3.oneE l[i] (behind l i) else if M3.mayE false l[i].kids ≠ 0 then M3.mayE false l[i].kids else M3.mayE (behind l (i + 1)) (l.drop (i + 1)) := by
  rw [List.drop_eq_getElem_cons h, M3.mayE_cons, behind_succ l i h]


end Go.Proofs.Ytlknmnldblodbaa

/- Layer 3 by plain definitions: nodes that may be, made of any. No program in it. -/
namespace Go.Proofs.Ytlknmnldblodbaa
namespace M3

theorem nilB_empty : nilB ⟨#[]⟩ = true := nilB_iff.2 rfl
def wordsL : List ByteArray := [⟨#[97]⟩, ⟨#[98]⟩, ⟨#[112]⟩, ⟨#[117, 108]⟩, ⟨#[108, 105]⟩, ⟨#[98, 114]⟩, ⟨#[105, 109, 103]⟩, ⟨#[100, 105, 118]⟩, ⟨#[115, 99, 114, 105, 112, 116]⟩, ⟨#[120, 45, 121]⟩]
def attrsL : List ByteArray := [⟨#[105, 100]⟩, ⟨#[104, 114, 101, 102]⟩, ⟨#[116, 105, 116, 108, 101]⟩, ⟨#[100, 97, 116, 97, 45, 97]⟩, ⟨#[111, 110, 99, 108, 105, 99, 107]⟩]
def sumB (l : List UInt8) : Nat := (l.map UInt8.toNat).sum
def wordN (s : ByteArray) : ByteArray := if namedB s.data.toList then s else wordsL.getD (sumB s.data.toList % 10) ⟨#[]⟩
def attrN (s : ByteArray) : ByteArray := if attributedB s.data.toList then s else attrsL.getD (s.size % 5) ⟨#[]⟩
def rightN (s : ByteArray) : ByteArray := ⟨(M1.right s.data.toList).toArray⟩
theorem rightN_isB (s : ByteArray) : M1.isB (rightN s).data.toList = true := M1.isB_right _
theorem rightN_size (s : ByteArray) : (rightN s).size ≤ 4 * s.size := M1.right_len s.data.toList
theorem isB_lo (l : List UInt8) (h : ∀ c ∈ l, c.toNat < 128 ∧ c.toNat ≠ 0 ∧ c.toNat ≠ 13) : M1.isB l = true := by
  induction l with
  | nil => exact M1.isB_nil
  | cons c t ih =>
    obtain ⟨h1, h2, h3⟩ := h c (by simp)
    rw [M1.isB_step _ (by simp)]
    have hd : M1.dec (c :: t) = (c.toNat, 1) := M2.dec_lo c t h1
    rw [hd]
    have h4 : c.toNat ≠ 65533 := by omega
    simp [h2, h3, h4]
    exact ih (fun x hx => h x (by simp [hx]))
theorem wordsL_ok : ∀ i, i < 10 → namedB (wordsL.getD i ⟨#[]⟩).data.toList = true ∧ (wordsL.getD i ⟨#[]⟩).size ≤ 6 := by decide
theorem attrsL_low : ∀ i, i < 5 → ((attrsL.getD i ⟨#[]⟩).data.toList.all fun c => decide (c.toNat < 128 ∧ c.toNat ≠ 0 ∧ c.toNat ≠ 13)) = true ∧ !(attrsL.getD i ⟨#[]⟩).data.toList.isEmpty = true ∧ (attrsL.getD i ⟨#[]⟩).data.toList.any capB = false ∧ (attrsL.getD i ⟨#[]⟩).data.toList.any badB = false ∧ (attrsL.getD i ⟨#[]⟩).size ≤ 7 := by decide
theorem wordN_ok (s : ByteArray) : namedB (wordN s).data.toList = true := by
  unfold wordN
  split
  · assumption
  · exact (wordsL_ok _ (Nat.mod_lt _ (by decide))).1
theorem wordN_size (s : ByteArray) (b : Nat) (h : s.size ≤ b) (h6 : 6 ≤ b) : (wordN s).size ≤ b := by
  unfold wordN
  split
  · exact h
  · have := (wordsL_ok _ (Nat.mod_lt (sumB s.data.toList) (by decide : 0 < 10))).2; omega
theorem attrN_ok (s : ByteArray) : attributedB (attrN s).data.toList = true := by
  unfold attrN
  split
  · assumption
  · obtain ⟨h1, h2, h3, h4, _⟩ := attrsL_low _ (Nat.mod_lt s.size (by decide : 0 < 5))
    unfold attributedB
    have h5 : M1.isB (attrsL.getD (s.size % 5) ⟨#[]⟩).data.toList = true := isB_lo _ (fun c hc => by have := List.all_eq_true.1 h1 c hc; simpa using this)
    rw [h5, h3, h4]
    simpa using h2
theorem attrN_size (s : ByteArray) (b : Nat) (h : s.size ≤ b) (h7 : 7 ≤ b) : (attrN s).size ≤ b := by
  unfold attrN
  split
  · exact h
  · have := (attrsL_low _ (Nat.mod_lt s.size (by decide : 0 < 5))).2.2.2.2; omega

/-- Attributes: of one name the first. -/
def addA (acc : List Att) (a : Att) : List Att := if (valueOf (attrN a.name) acc).isSome then acc else acc ++ [⟨attrN a.name, rightN a.value⟩]
def goodA (l : List Att) : List Att := l.foldl addA []
theorem goodA_snoc (l : List Att) (a : Att) : goodA (l ++ [a]) = addA (goodA l) a := by simp [goodA]
def kindN (k : Int) : Int := if k < 1 ∨ 3 < k then 1 else k
def goodN : List Nd → List Nd
  | [] => []
  | .mk k n a t ks :: r => push' (if kindN k = 1 then .mk 1 (wordN n) (goodA a) ⟨#[]⟩ (merge (goodN ks)) else .mk (kindN k) ⟨#[]⟩ [] (rightN t) []) (goodN r)
termination_by l => SizeOf.sizeOf l
where push' (x : Nd) (r : List Nd) : List Nd := x :: r
theorem goodN_nil : goodN [] = [] := by rw [goodN]
def good1 (x : Nd) : Nd := if kindN x.kind = 1 then .mk 1 (wordN x.name) (goodA x.attrs) ⟨#[]⟩ (merge (goodN x.kids)) else .mk (kindN x.kind) ⟨#[]⟩ [] (rightN x.text) []
theorem good1_mk (k : Int) (n : ByteArray) (a : List Att) (t : ByteArray) (ks : List Nd) : good1 (.mk k n a t ks) = if kindN k = 1 then .mk 1 (wordN n) (goodA a) ⟨#[]⟩ (merge (goodN ks)) else .mk (kindN k) ⟨#[]⟩ [] (rightN t) [] := rfl
theorem goodN_cons (x : Nd) (r : List Nd) : goodN (x :: r) = good1 x :: goodN r := by cases x; rw [goodN]; rfl
theorem goodN_map (l : List Nd) : goodN l = l.map good1 := by
  induction l with
  | nil => exact goodN_nil
  | cons x r ih => rw [goodN_cons, ih]; rfl
/-- Nodes that may be, made of any. -/
def good (l : List Nd) : List Nd := merge (goodN l)

theorem addA_len (acc : List Att) (a : Att) : (addA acc a).length ≤ acc.length + 1 := by unfold addA; split <;> simp
theorem goodA_len (l : List Att) : (goodA l).length ≤ l.length := by
  have key : ∀ (l acc : List Att), (l.foldl addA acc).length ≤ acc.length + l.length := by
    intro l
    induction l with
    | nil => intro acc; exact Nat.le_refl _
    | cons a r ih => intro acc; have h1 := ih (addA acc a); have h2 := addA_len acc a; rw [List.foldl_cons, List.length_cons]; omega
  have := key l []
  simpa [goodA] using this
theorem valueOf_none (nm : ByteArray) (l : List Att) : valueOf nm l = none ↔ ∀ a ∈ l, eqB a.name nm = false := by
  induction l with
  | nil => simp [valueOf]
  | cons a r ih =>
    rw [valueOf]
    cases h : eqB a.name nm
    · simp [ih, h]
    · simp [h]
/-- What each attribute that is put keeps. -/
theorem goodA_all {P : Att → Prop} (l : List Att) (h : ∀ a ∈ l, P ⟨attrN a.name, rightN a.value⟩) : ∀ a ∈ goodA l, P a := by
  have key : ∀ (l acc : List Att), (∀ a ∈ l, P ⟨attrN a.name, rightN a.value⟩) → (∀ a ∈ acc, P a) → ∀ a ∈ l.foldl addA acc, P a := by
    intro l
    induction l with
    | nil => intro acc _ h; exact h
    | cons a r ih =>
      intro acc h1 h2
      rw [List.foldl_cons]
      refine ih _ (fun x hx => h1 x (by simp [hx])) ?_
      unfold addA
      split
      · exact h2
      · intro x hx
        rcases List.mem_append.1 hx with hx | hx
        · exact h2 x hx
        · simp at hx; subst hx; exact h1 a (by simp)
  exact key l [] h (fun a ha => by cases ha)
def Uniq : List Att → Prop
  | [] => True
  | a :: r => (∀ b ∈ r, eqB b.name a.name = false) ∧ Uniq r
theorem uniq_snoc {l : List Att} {a : Att} (h : Uniq l) (ha : ∀ b ∈ l, eqB b.name a.name = false) : Uniq (l ++ [a]) := by
  induction l with
  | nil => exact ⟨(fun b hb => by cases hb), trivial⟩
  | cons b r ih =>
    refine ⟨fun c hc => ?_, ih h.2 (fun c hc => ha c (by simp [hc]))⟩
    rcases List.mem_append.1 hc with hc | hc
    · exact h.1 c hc
    · simp at hc; subst hc
      have := ha b (by simp)
      rw [eqB_false] at this ⊢
      exact fun e => this e.symm
theorem goodA_uniq (l : List Att) : Uniq (goodA l) := by
  have key : ∀ (l acc : List Att), Uniq acc → Uniq (l.foldl addA acc) := by
    intro l
    induction l with
    | nil => intro acc h; exact h
    | cons a r ih =>
      intro acc h
      rw [List.foldl_cons]
      refine ih _ ?_
      unfold addA
      split
      · exact h
      · rename_i hn
        have hn' : valueOf (attrN a.name) acc = none := by
          cases hv : valueOf (attrN a.name) acc with
          | none => rfl
          | some _ => rw [hv] at hn; simp at hn
        exact uniq_snoc h ((valueOf_none _ _).1 hn')
  exact key l [] trivial
theorem names_ok (l : List Att) : ∀ seen : List ByteArray, (∀ a ∈ l, attributedB a.name.data.toList = true) → Uniq l → (∀ a ∈ l, ∀ s ∈ seen, eqB a.name s = false) → namesE seen l = 0 := by
  induction l with
  | nil => intro seen _ _ _; rfl
  | cons a r ih =>
    intro seen h1 h2 h3
    have hs : seen.any (eqB a.name) = false := by
      rw [List.any_eq_false]
      intro s hs
      simpa using h3 a (by simp) s hs
    rw [namesE, h1 a (by simp), if_pos rfl, hs, if_neg (by simp)]
    refine ih _ (fun b hb => h1 b (by simp [hb])) h2.2 (fun b hb s hs => ?_)
    rcases List.mem_append.1 hs with hs | hs
    · exact h3 b (by simp [hb]) s hs
    · simp at hs; subst hs; exact h2.1 b hb
theorem values_ok (l : List Att) (h : ∀ a ∈ l, M1.isB a.value.data.toList = true) : valuesE l = 0 := by
  induction l with
  | nil => rfl
  | cons a r ih => rw [valuesE, h a (by simp), if_pos rfl, ih (fun b hb => h b (by simp [hb]))]
theorem kindN_in (k : Int) : kindN k = 1 ∨ kindN k = 2 ∨ kindN k = 3 := by unfold kindN; split <;> omega
theorem good_ok (l : List Nd) : ∀ x ∈ goodN l, okP x := by
  induction l using Nd.ind with
  | h0 => intro x hx; rw [goodN_nil] at hx; cases hx
  | h1 k n at_ t ks r ih1 ih2 =>
    intro x hx
    rw [goodN_cons] at hx
    rcases List.mem_cons.1 hx with rfl | hx
    · rw [good1_mk]
      by_cases h1 : kindN k = 1
      · rw [if_pos h1]
        have hk : isText (.mk 1 (wordN n) (goodA at_) ⟨#[]⟩ (merge (goodN ks))) = false := rfl
        unfold okP
        rw [hk, if_neg (by simp)]
        refine ⟨?_, may_merge _ ih1⟩
        show elemE _ = 0
        show (if nilB ⟨#[]⟩ = true then (if namedB (wordN n).data.toList = true then (if namesE [] (goodA at_) = 0 then valuesE (goodA at_) else namesE [] (goodA at_)) else 4) else 7) = (0 : Int)
        rw [nilB_empty, wordN_ok, names_ok _ [] (goodA_all at_ (fun a _ => attrN_ok _)) (goodA_uniq _) (fun _ _ s hs => by cases hs), values_ok _ (goodA_all at_ (fun a _ => rightN_isB _))]
        rfl
      · rw [if_neg h1]
        rcases kindN_in k with h | h | h
        · exact absurd h h1
        · rw [h]
          exact ⟨by show (nilB ⟨#[]⟩ && ([] : List Att).isEmpty && ([] : List Nd).isEmpty) = true; rw [nilB_empty]; rfl, rightN_isB t⟩
        · rw [h]
          refine ⟨?_, mayE_nil _⟩
          show (if (nilB ⟨#[]⟩ && ([] : List Att).isEmpty && ([] : List Nd).isEmpty) = true then (if M1.isB (rightN t).data.toList = true then (0 : Int) else 2) else 7) = 0
          rw [nilB_empty, rightN_isB]; rfl
    · exact ih2 x hx
theorem good_may (l : List Nd) : mayE false (good l) = 0 := may_merge _ (good_ok l)
end M3
end Go.Proofs.Ytlknmnldblodbaa
