/- Texts joined: Ref07t, Ref04, Par2, Par3, Shp7, Math7c, Math8a, Math5g, Math5h, Math5i, Math5j, Math8b, Math8c, Math8d, Math8e, Math8f, Math8g, Math8h, Con, Mod2. -/
import Derived.BigQuiet
import Derived.Lib.SlBytesConst
import Derived.Test.YteefodibpjgicaaGreatRows
import Derived.Shelf.LaysM
import Derived.Shelf.Strings.Search3
import Derived.Shelf.Strings.Shaped
import Derived.Test.YteefodibpjgicaaGreatK1
import Derived.Test.YteefodibpjgicaaGreatK2
import Derived.Test.YteefodibpjgicaaGreatK3
import Derived.Test.YteefodibpjgicaaGreatK4
import Derived.Test.YteefodibpjgicaaGreatK5
import Derived.Test.YteefodibpjgicaaGreatK6
import Derived.Test.YteefodibpjgicaaGreatK7
import Derived.Test.YteefodibpjgicaaGreatK8
import Derived.Test.YteefodibpjgicaaGreatK9
import Derived.Test.YteefodibpjgicaaGreatK10
/- Reference 7: tokens' tree. -/
namespace Go.Proofs.YteefodibpjgicaaGreat
open Go.RowKit
/-- What has been handed in, and what was made behind a box. -/
def Sx (S : Nat → Prop) (wo wr : World) (b : Nat) : Prop := S b ∨ (wo.heap.size < b ∧ b < wr.heap.size)
/-- What the reference holds. -/
def TrV (S : Nat → Prop) (wo W : World) (s : M7.St) (vL vP : Value) : Prop := RepN (Sx S wo W) W vL s.L ∧ Ints (Sx S wo W) W vP (M7.pathN s.d s.L) ∧ Below wo.heap.size wo W
def TrB (S : Nat → Prop) (wo W : World) (s : M7.St) : Prop := ∃ vL vP, TrV S wo W s vL vP ∧ Box W wo.heap.size 84 [vL, vP]
def TrI (S : Nat → Prop) (wo wr : World) (s : M7.St) (f : Nat → Bool) (t : Nat → Value) (W : World) : Prop :=
  (f 5 = false → W = wr.drew) ∧ (f 5 = true → f 6 = false → ∃ vL vP z0 z1, t 5 = .agg #[vL, vP] ∧ TrV S wo W s vL vP ∧ Box W wo.heap.size 84 [z0, z1]) ∧ (f 6 = true → TrB S wo W s)
section
variable {S : Nat → Prop} {wo wr W : World} {s : M7.St} {f : Nat → Bool} {t : Nat → Value} {vL vP : Value}
theorem TrI.same (h : TrI S wo wr s f t W) (i : Nat) (v : Value) (h5 : 5 ≠ i) (h6 : 6 ≠ i) : TrI S wo wr s (updF f i) (updT t i v) W := by
  unfold TrI
  rw [updF_ne _ h5, updF_ne _ h6, updT_ne _ _ h5]
  exact h
theorem TrV.store (h : TrV S wo W s vL vP) {z0 z1 : Value} (hb : Box W wo.heap.size 84 [z0, z1]) (hS : ∀ b, S b → b < wo.heap.size) : TrB S wo ((W.setCell ⟨wo.heap.size, 0, none⟩ vL).setCell ⟨wo.heap.size, 1, none⟩ vP) s := by
  obtain ⟨h1, h2, h3⟩ := h
  have hsz : ((W.setCell ⟨wo.heap.size, 0, none⟩ vL).setCell ⟨wo.heap.size, 1, none⟩ vP).heap.size = W.heap.size := by simp [World.setCell]
  have hk : ∀ b, Sx S wo W b → ((W.setCell ⟨wo.heap.size, 0, none⟩ vL).setCell ⟨wo.heap.size, 1, none⟩ vP).heap[b]? = W.heap[b]? := fun b hb => by
    have hne : b ≠ wo.heap.size := by
      rcases hb with hb | hb
      · have := hS b hb; omega
      · omega
    rw [Below.heap_setCell _ _ _ _ (by simpa using hne), Below.heap_setCell _ _ _ _ (by simpa using hne)]
  have hm : ∀ b, Sx S wo W b → Sx S wo ((W.setCell ⟨wo.heap.size, 0, none⟩ vL).setCell ⟨wo.heap.size, 1, none⟩ vP) b := fun b hb => by
    rcases hb with hb | hb
    · exact Or.inl hb
    · exact Or.inr ⟨hb.1, by rw [hsz]; exact hb.2⟩
  exact ⟨_, _, ⟨(h1.keep hk).mono hm, Row.mono (Row.keep h2 hk) hm, two_below h3 _ _ (Nat.le_refl _)⟩, hb.two _ _⟩
end
end Go.Proofs.YteefodibpjgicaaGreat

/- The reference of layer 4: an element's beginning, a node, texts. -/
namespace Go.Proofs.YteefodibpjgicaaGreat
open Go.RowKit
end Go.Proofs.YteefodibpjgicaaGreat

/- Package parse, and layer 8's reference. -/
namespace Go.Proofs.YteefodibpjgicaaGreat
open Go.RowKit
theorem same_callP {w : World} {va vb : Value} {a b : List Nd} (ha : RepN (fun b => b < w.heap.size) w va a) (hb : RepN (fun b => b < w.heap.size) w vb b) : Calls Tryz.prog 38 #[va, vb] w (SamePost (M3.sameN a b) w) :=
  domSame (M3.weight a + 1) _ a b va vb w (Nat.lt_succ_self _) (fun _ h => h) ha hb
theorem same_callR {w : World} {va vb : Value} {a b : List Nd} (ha : RepN (fun b => b < w.heap.size) w va a) (hb : RepN (fun b => b < w.heap.size) w vb b) : Calls Tryz.prog 10 #[va, vb] w (SamePost (M3.sameN a b) w) :=
  ref03Same (M3.weight a + 1) _ a b va vb w (Nat.lt_succ_self _) (fun _ h => h) ha hb
theorem shr_lt {l : List Nd} {w w' : World} {v : Value} (h : RepN (fun b => False ∨ (w.heap.size ≤ b ∧ b < w'.heap.size)) w' v l) : RepN (fun b => b < w'.heap.size) w' v l := h.mono fun _ h => h.elim (fun h => h.elim) (fun h => h.2)

set_option maxHeartbeats 2000000 in
set_option maxRecDepth 100000 in
theorem parKeeps (S : Nat → Prop) (v : Value) (l : List Nd) (w : World) (hg : Glo w) (hS : ∀ b, S b → b < w.heap.size) (hr : RepN S w v l) (hf : FitN l) (hl : (M4.textB false l).length ≤ 1073741824) (hft : FitL (M5.tokens (M4.textB false l))) :
    Calls Tryz.prog 21 #[v] w (SamePost (M3.sameN (again l) l) w) := by
  have hA := Lib.hid (parAgain S v l w hg hS hr hf hl hft)
  obtain ⟨a, cap, rfl⟩ := hr.slice
  obtain ⟨wo, rfl⟩ : ∃ wo : World, wo = w := ⟨_, rfl⟩
  go_enter Tryz.func21, Tryz.ntmps21
  go_wp2_with fail
  refine hA.out.mono ?_
  rintro e w1 ⟨v1, rfl, hr1, hb⟩
  have hz := hb.size
  have hS1 := Lib.hid (same_callP (shr_lt hr1) ((hr.below hS hb).mono fun b h => by have := hS b h; omega))
  obtain ⟨a1, c1, rfl⟩ := hr1.slice
  clear hr1 hr
  go_wp2_with fail
  refine hS1.out.mono ?_
  rintro e w2 ⟨rfl, hb2⟩
  have hb02 := bt hb hb2
  go_wp2_with fail
  go_ret
  exact ⟨rfl, hb02⟩

namespace M5
end M5
end Go.Proofs.YteefodibpjgicaaGreat

/- Layer 8's own example. -/
namespace Go.Proofs.YteefodibpjgicaaGreat
open Go.RowKit
def exB8 : List UInt8 := [60, 112, 62, 97, 60, 100, 105, 118, 62, 98]
def exT8 : List UInt8 := [60, 112, 62, 97, 60, 47, 112, 62, 60, 100, 105, 118, 62, 98, 60, 47, 100, 105, 118, 62]
def exA8 : Nd := .mk 2 ⟨#[]⟩ [] ⟨#[97]⟩ []
def exC8 : Nd := .mk 2 ⟨#[]⟩ [] ⟨#[98]⟩ []
def exP8 : Nd := .mk 1 ⟨#[112]⟩ [] ⟨#[]⟩ [exA8]
def exD8 : Nd := .mk 1 ⟨#[100, 105, 118]⟩ [] ⟨#[]⟩ [exC8]
def exL8 : List Nd := [exP8, exD8]
theorem ex8_toks : M5.tokens exB8 = [⟨1, ⟨#[112]⟩, [], ⟨#[]⟩⟩, ⟨3, ⟨#[]⟩, [], ⟨#[97]⟩⟩, ⟨1, ⟨#[100, 105, 118]⟩, [], ⟨#[]⟩⟩, ⟨3, ⟨#[]⟩, [], ⟨#[98]⟩⟩] := by kernel_rfl
theorem ex8_tree : M7.tree [⟨1, ⟨#[112]⟩, [], ⟨#[]⟩⟩, ⟨3, ⟨#[]⟩, [], ⟨#[97]⟩⟩, ⟨1, ⟨#[100, 105, 118]⟩, [], ⟨#[]⟩⟩, ⟨3, ⟨#[]⟩, [], ⟨#[98]⟩⟩] = exL8 := by kernel_rfl
theorem ex8_text : M4.textB false exL8 = exT8 := by kernel_rfl
theorem ex8_again : M7.tree (M5.tokens exT8) = exL8 := by kernel_rfl
theorem ex8_right : M1.right exB8 = exB8 := by kernel_rfl
theorem ex8_may : M3.mayE false exL8 = 0 := by kernel_rfl
theorem ex8_keeps : again exL8 = exL8 := by
  unfold again
  rw [if_pos ex8_may, ex8_text, ex8_again]
theorem ex8_fit : FitN exL8 := by
  have h0' : M3.weight exA8.kids = 0 := by kernel_rfl
  have h0'' : M3.weight exC8.kids = 0 := by kernel_rfl
  have h1 : M3.weight exP8.kids = 1 := by kernel_rfl
  have h2 : M3.weight exD8.kids = 1 := by kernel_rfl
  refine fitN_cons.2 ⟨⟨by decide, by decide, ?_, by rw [h1]; decide⟩, fitN_cons.2 ⟨⟨by decide, by decide, ?_, by rw [h0']; decide⟩, fitN_nil, fitN_nil⟩, fitN_cons.2 ⟨⟨by decide, by decide, ?_, by rw [h2]; decide⟩, fitN_cons.2 ⟨⟨by decide, by decide, ?_, by rw [h0'']; decide⟩, fitN_nil, fitN_nil⟩, fitN_nil⟩⟩
  · intro a ha; simp [exP8, Nd.attrs] at ha
  · intro a ha; simp [exA8, Nd.attrs] at ha
  · intro a ha; simp [exD8, Nd.attrs] at ha
  · intro a ha; simp [exC8, Nd.attrs] at ha

set_option maxHeartbeats 4000000 in
set_option maxRecDepth 100000 in
theorem lives08 (w : World) (hg : Glo w) : Calls Tryz.prog 15 #[] w fun e w' => e = .returned (.bool true) ∧ Below w.heap.size w w' := by
  obtain ⟨wo, rfl⟩ : ∃ wo : World, wo = w := ⟨_, rfl⟩
  have hcv := fun (w : World) (C : Array Value) (n c : Nat) => Lib.run_convert_bytes_const (P := Tryz.prog) w 22 5 C n c Tryz.underlying22 Tryz.underlying5
  obtain ⟨w1, hw1⟩ : ∃ W, wo.alloc (.cells (u8s exB8).toArray 5 (10, 11)) = W := ⟨_, rfl⟩
  have bx : w1.heap[wo.heap.size]? = some (.cells (u8s exB8).toArray 5 (10, 11)) := by rw [← hw1]; exact heap_alloc_new wo _
  have hb1 : Below wo.heap.size wo w1 := by rw [← hw1]; exact (Below.refl _ _).alloc (Nat.le_refl _) _
  have hSl : Sl w1 (.slice (some ⟨wo.heap.size, 0, none⟩) 10 10) (u8s exB8) := by
    refine ⟨some ⟨wo.heap.size, 0, none⟩, 10, rfl, by decide, by decide, by simp, fun _ => ⟨wo.heap.size, 0, rfl, fun j hj => ?_⟩⟩
    rw [Nat.zero_add, cell_of_row w1 wo.heap.size j _ _ _ bx]
    simp
  have hP := Lib.hid (parBytes _ exB8 w1 (hg.below hb1 (Nat.le_refl _)) hSl (by decide))
  rw [ex8_right, ex8_toks, ex8_tree] at hP
  clear hSl bx
  go_enter Tryz.func15, Tryz.ntmps15
  go_wp2_with fail
  rw [show wo.alloc (.cells #[.int .u8 60, .int .u8 112, .int .u8 62, .int .u8 97, .int .u8 60, .int .u8 100, .int .u8 105, .int .u8 118, .int .u8 62, .int .u8 98] 5 (10, 11)) = w1 from hw1]
  clear hw1
  go_wp2_with fail
  refine hP.out.mono ?_
  rintro e w2 ⟨v2, rfl, hr2, hb2⟩
  have hR := shr_lt hr2
  have hb02 := bt hb1 hb2
  have hK := Lib.hid (parKeeps _ v2 exL8 w2 (hg.below hb02 (Nat.le_refl _)) (fun b h => h) hR ex8_fit (by rw [ex8_text]; decide) (M5.toks_fit _ (by rw [ex8_text]; decide)).1)
  rw [ex8_keeps, M3.sameN_self] at hK
  obtain ⟨a5, c5, rfl⟩ := hR.slice
  obtain ⟨b5, o5, va5, vk5, rfl, -, -, y1, -, -, y4, hrv⟩ := hR.at_ 0 (by decide)
  obtain ⟨b5', o5', va5', vk5', e5, -, -, z1, -, -, -, -⟩ := hR.at_ 1 (by decide)
  cases e5
  simp only [Nat.zero_mul, Nat.one_mul, Nat.add_zero] at y1 y4 z1
  obtain ⟨ak, ck, rfl⟩ := hrv.2.slice
  obtain ⟨b6, o6, va6, vk6, rfl, -, -, -, -, x3, -, -⟩ := hrv.2.at_ 0 (by decide)
  simp only [Nat.zero_mul, Nat.add_zero] at x3
  replace y1 : w2.cell? ⟨b5, o5 + 1, none⟩ = some (.string ⟨#[112]⟩) := y1
  replace y4 : w2.cell? ⟨b5, o5 + 4, none⟩ = some (.slice (some ⟨b6, o6, none⟩) 1 ck) := y4
  replace z1 : w2.cell? ⟨b5, o5 + 5 + 1, none⟩ = some (.string ⟨#[100, 105, 118]⟩) := z1
  replace x3 : w2.cell? ⟨b6, o6 + 3, none⟩ = some (.string ⟨#[97]⟩) := x3
  clear hr2 hR hrv hP
  change Hid (Calls Tryz.prog 21 #[.slice (some ⟨b5, o5, none⟩) 2 c5] w2 (SamePost true w2)) at hK
  go_wp2_with fail
  refine hK.out.mono ?_
  rintro e w3 ⟨rfl, hb3⟩
  have hb03 := bt hb02 hb3
  go_wp2_with fail
  go_ret
  exact ⟨rfl, hb03⟩

end Go.Proofs.YteefodibpjgicaaGreat

/- Law 7: nodes that have their shape. -/
namespace Go.Proofs.YteefodibpjgicaaGreat
open Go.RowKit
def M7.headBad (p : ByteArray) (pt : Bool) (x : Nd) : Bool := (x.kind == 1 && M6.closesB p.data.toList x.name.data.toList) || (x.kind == 2 && (x.text.toList.isEmpty || pt))

def M7.shapeR (p : ByteArray) (pt : Bool) : List Nd → Bool
  | [] => true
  | .mk k n a t ks :: r => !(M7.headBad p pt (.mk k n a t ks)) && (!(M3.voidB n.data.toList && !ks.isEmpty) && M7.shapeR n false ks) && M7.shapeR p (k == 2) r
termination_by l => SizeOf.sizeOf l

/-- No text is empty or beside another, a void element has no kids, no kid closes its parent. -/
def M7.shapeB (p : ByteArray) (l : List Nd) : Bool := !(M3.voidB p.data.toList && !l.isEmpty) && M7.shapeR p false l

end Go.Proofs.YteefodibpjgicaaGreat

/- Layer 7: a tree has its shape. No program in it. -/
namespace Go.Proofs.YteefodibpjgicaaGreat
namespace M7
open M3 (isText withText cat push)
def lastT (pt : Bool) (L : List Nd) : Bool := match L.getLast? with | some y => y.kind == 2 | none => pt
theorem lastT_cons (pt : Bool) (y : Nd) (r : List Nd) : lastT pt (y :: r) = lastT (y.kind == 2) r := by
  unfold lastT
  rw [List.getLast?_cons]
  cases r.getLast? <;> rfl
theorem lastT_snoc (pt : Bool) (A : List Nd) (y : Nd) : lastT pt (A ++ [y]) = (y.kind == 2) := by unfold lastT; simp
def lastN (p : ByteArray) (o : List ByteArray) : ByteArray := o.getLast?.getD p
theorem lastN_cons (p x : ByteArray) (o : List ByteArray) : lastN p (x :: o) = lastN x o := by unfold lastN; rw [List.getLast?_cons]; rfl
def St.good (s : St) : Prop := s.ok ∧ shapeB ⟨#[]⟩ s.L = true ∧ ∀ nm ∈ openN s.d s.L, M3.voidB nm.data.toList = false
theorem closeAt_stop (o : List ByteArray) (b : ByteArray) (n : Nat) : closeAt o b n = 0 ∨ M6.closesB (o.getD (closeAt o b n - 1) ⟨#[]⟩).data.toList b.data.toList = false := by
  induction n with
  | zero => exact .inl rfl
  | succ n ih =>
    rw [closeAt]
    split
    · exact ih
    · rename_i h
      exact .inr (by simpa using h)
theorem lastN_take {o : List ByteArray} {n : Nat} (hn : n ≤ o.length) : lastN ⟨#[]⟩ (o.take n) = if n = 0 then ⟨#[]⟩ else o.getD (n - 1) ⟨#[]⟩ := by
  unfold lastN
  split
  · rename_i h; rw [h]; rfl
  · rename_i h
    rw [List.getLast?_eq_getElem?, List.length_take, Nat.min_eq_left hn, List.getElem?_take, if_pos (by omega)]
    rfl
end M7
end Go.Proofs.YteefodibpjgicaaGreat

/- Layer 8: nodes' tokens, built again, are they. No program in it. -/
namespace Go.Proofs.YteefodibpjgicaaGreat
namespace M7
open M3 (isText withText cat push mayE oneE)
/-- What stands ahead of an element's kids. -/
def begT (x : Nd) : Tok := ⟨1, x.name, x.attrs, ⟨#[]⟩⟩
def endT (x : Nd) : Tok := ⟨2, x.name, [], ⟨#[]⟩⟩
def toksN : List Nd → List Tok
  | [] => []
  | .mk k n a t ks :: r =>
    (if k = 1 then ⟨1, n, a, ⟨#[]⟩⟩ :: (if M3.voidB n.data.toList then [] else toksN ks ++ [⟨2, n, [], ⟨#[]⟩⟩])
     else if k = 2 then [⟨3, ⟨#[]⟩, [], t⟩] else [⟨4, ⟨#[]⟩, [], t⟩]) ++ toksN r
termination_by l => SizeOf.sizeOf l
def tokOne (x : Nd) : List Tok :=
  if x.kind = 1 then begT x :: (if M3.voidB x.name.data.toList then [] else toksN x.kids ++ [endT x])
  else if x.kind = 2 then [⟨3, ⟨#[]⟩, [], x.text⟩] else [⟨4, ⟨#[]⟩, [], x.text⟩]
theorem toksN_nil : toksN [] = [] := by rw [toksN]
theorem toksN_cons (x : Nd) (r : List Nd) : toksN (x :: r) = tokOne x ++ toksN r := by cases x; rw [toksN]; rfl

theorem may_cons {p : Bool} {x : Nd} {r : List Nd} (h : mayE p (x :: r) = 0) : oneE x p = 0 ∧ mayE false x.kids = 0 ∧ mayE (x.kind == 2) r = 0 := by
  rw [M3.mayE_cons] at h
  by_cases h1 : oneE x p = 0
  · by_cases h2 : mayE false x.kids = 0
    · rw [if_neg (by simp [h1]), if_neg (by simp [h2])] at h
      exact ⟨h1, h2, h⟩
    · rw [if_neg (by simp [h1]), if_pos h2] at h
      exact absurd h h2
  · rw [if_pos h1] at h
    exact absurd h h1
theorem nil_of {s : ByteArray} (h : M3.nilB s = true) : s = ⟨#[]⟩ := by
  rw [M3.nilB_data'] at h
  cases s with
  | mk d => cases d with
    | mk l => cases l with
      | nil => rfl
      | cons a r => simp at h
/-- The three kinds of nodes that may be. -/
theorem one_kinds {x : Nd} {p : Bool} (h : oneE x p = 0) :
    (x.kind = 1 ∧ x.text = ⟨#[]⟩ ∧ M3.namedB x.name.data.toList = true ∧ M3.namesE [] x.attrs = 0 ∧ M3.valuesE x.attrs = 0) ∨
    (x.kind = 2 ∧ x = .mk 2 ⟨#[]⟩ [] x.text [] ∧ M1.isB x.text.data.toList = true ∧ M3.nilB x.text = false ∧ p = false) ∨
    (x.kind = 3 ∧ x = .mk 3 ⟨#[]⟩ [] x.text [] ∧ M1.isB x.text.data.toList = true) := by
  unfold oneE at h
  have pl : ∀ k, x.kind = k → M3.plainB x = true → x = .mk k ⟨#[]⟩ [] x.text [] := fun k hk hp => by
    unfold M3.plainB at hp
    simp only [Bool.and_eq_true, List.isEmpty_iff] at hp
    obtain ⟨⟨h1, h2⟩, h3⟩ := hp
    have h1 := nil_of h1
    cases x with
    | mk kk n a t ks =>
      have hk : kk = k := hk
      have h1 : n = ⟨#[]⟩ := h1
      have h2 : a = [] := h2
      have h3 : ks = [] := h3
      subst hk h1 h2 h3
      rfl
  by_cases h1 : x.kind = 1
  · rw [if_pos h1] at h
    unfold M3.elemE at h
    left
    cases ht : M3.nilB x.text
    · simp [ht] at h
    · cases hn : M3.namedB x.name.data.toList
      · simp [ht, hn] at h
      · rw [ht, hn, if_pos rfl, if_pos rfl] at h
        by_cases ha : M3.namesE [] x.attrs = 0
        · rw [if_pos ha] at h
          exact ⟨h1, nil_of ht, rfl, ha, h⟩
        · rw [if_neg ha] at h
          exact absurd h ha
  rw [if_neg h1] at h
  by_cases h2 : x.kind = 2
  · rw [if_pos h2] at h
    right; left
    cases hp : M3.plainB x
    · simp [hp] at h
    · rw [hp, if_pos rfl] at h
      cases hb : M1.isB x.text.data.toList
      · simp [hb] at h
      · rw [hb] at h
        cases hn : M3.nilB x.text
        · cases hq : p
          · exact ⟨h2, pl 2 h2 hp, rfl, rfl, rfl⟩
          · simp [hn, hq] at h
        · simp [hn] at h
  rw [if_neg h2] at h
  by_cases h3 : x.kind = 3
  · rw [if_pos h3] at h
    right; right
    cases hp : M3.plainB x
    · simp [hp] at h
    · cases hb : M1.isB x.text.data.toList
      · simp [hp, hb] at h
      · exact ⟨h3, pl 3 h3 hp, rfl⟩
  · simp [if_neg h3] at h
theorem may_apart {l : List Nd} {p : Bool} (h : mayE p l = 0) : M3.apart p l = true := (M6.ok_of_may l p h).2

/-- More nodes, one behind the other. -/
def putAll (d : Nat) (l : List Nd) (L : List Nd) : List Nd := l.foldl (fun L x => putN d x L) L
theorem wk_wk7 (x : Nd) (a b : List Nd) : wk (wk x a) b = wk x b := rfl
theorem putAll_snoc (d : Nat) (A : List Nd) (x : Nd) (l : List Nd) : putAll (d + 1) l (A ++ [x]) = A ++ [wk x (putAll d l x.kids)] := by
  induction l generalizing x with
  | nil => show A ++ [x] = A ++ [wk x x.kids]; cases x; rfl
  | cons y r ih =>
    show putAll (d + 1) r (putN (d + 1) y (A ++ [x])) = _
    rw [putN_snoc, ih]
    rfl
theorem putAll_kids {d : Nat} : ∀ {L : List Nd} (e : Nd) (ks : List Nd), okD d L → isText e = false → putAll (d + 1) ks (putN d e L) = putN d (wk e (ks.foldl push e.kids)) L := by
  induction d with
  | zero =>
    intro L e ks _ he
    have hp : ∀ e : Nd, isText e = false → push L e = L ++ [e] := fun e he => push_node e he
    show putAll 1 ks (push L e) = push L _
    rw [hp e he, hp _ (by exact he), putAll_snoc]
    rfl
  | succ d ih =>
    intro L e ks hok he
    rcases List.eq_nil_or_concat L with rfl | ⟨A, y, rfl⟩
    · exact hok.elim
    · rw [List.concat_eq_append] at *
      rw [okD_snoc] at hok
      rw [putN_snoc, putN_snoc, putAll_snoc, wk_wk7]
      show A ++ [wk y (putAll (d + 1) ks (putN d e y.kids))] = _
      rw [ih e ks hok he]
theorem closed_none (b : List UInt8) : M6.closesB [] b = false := by
  unfold M6.closesB M6.closedL
  simp
theorem closeAt_last {o : List ByteArray} {b : ByteArray} {d : Nat} (hd : o.length = d) (h : M6.closesB (lastN ⟨#[]⟩ o).data.toList b.data.toList = false) : closeAt o b d = d := by
  cases d with
  | zero => rfl
  | succ d =>
    rw [closeAt, if_neg]
    have : lastN ⟨#[]⟩ o = o.getD d ⟨#[]⟩ := by
      have := lastN_take (o := o) (n := d + 1) (by omega)
      rw [List.take_of_length_le (by omega), if_neg (by omega)] at this
      exact this
    rw [← this, h]
    simp
theorem endAt_last (o : List ByteArray) (nm : ByteArray) : endAt (o ++ [nm]) nm (o.length + 1) = some o.length := by
  rw [endAt, if_pos]
  simp
/-- What tokens of nodes do. -/
theorem run_nodes (l : List Nd) : ∀ (L : List Nd) (d : Nat) (p : Bool), okD d L → (∀ x ∈ l, x.kind = 1 → M6.closesB (lastN ⟨#[]⟩ (openN d L)).data.toList x.name.data.toList = false) → M6.allB l = true → mayE p l = 0 →
    (toksN l).foldl step ⟨L, d⟩ = ⟨putAll d l L, d⟩ := by
  induction l using Nd.ind with
  | h0 => intro L d p _ _ _ _; rw [toksN_nil]; rfl
  | h1 k n a t ks r ih1 ih2 =>
    intro L d p hok hc hall hmay
    obtain ⟨m1, m2, m3⟩ := may_cons hmay
    rw [M6.allB_cons, Bool.and_eq_true] at hall
    obtain ⟨a1, a2⟩ := hall
    unfold M6.oneS at a1
    simp only [Bool.and_eq_true] at a1
    obtain ⟨-, a3, a4⟩ := a1
    rw [toksN_cons, List.foldl_append]
    have key : (tokOne (.mk k n a t ks)).foldl step ⟨L, d⟩ = ⟨putN d (.mk k n a t ks) L, d⟩ := by
      rcases one_kinds m1 with ⟨hk, ht, -⟩ | ⟨hk, hx, -⟩ | ⟨hk, hx, -⟩
      · have hk : k = 1 := hk
        have ht : t = ⟨#[]⟩ := ht
        subst hk ht
        have hol := openN_len hok
        have hcl := closeAt_last hol (hc (.mk 1 n a ⟨#[]⟩ ks) (by simp) rfl)
        have hs1 : step ⟨L, d⟩ (begT (.mk 1 n a ⟨#[]⟩ ks)) = ⟨putN d (.mk 1 n a ⟨#[]⟩ []) L, if M3.voidB n.data.toList then d else d + 1⟩ := by
          unfold step
          rw [if_pos (show (begT (.mk 1 n a ⟨#[]⟩ ks)).kind = 1 from rfl)]
          show (⟨putN (closeAt (openN d L) n d) _ L, if _ then closeAt (openN d L) n d else closeAt (openN d L) n d + 1⟩ : St) = _
          rw [show closeAt (openN d L) n d = d from hcl]
          rfl
        unfold tokOne
        rw [if_pos (show (Nd.mk 1 n a ⟨#[]⟩ ks).kind = 1 from rfl)]
        show (if M3.voidB n.data.toList then [] else toksN ks ++ [endT (.mk 1 n a ⟨#[]⟩ ks)]).foldl step (step ⟨L, d⟩ _) = _
        rw [hs1]
        cases hv : M3.voidB n.data.toList
        · rw [if_neg Bool.false_ne_true, if_neg Bool.false_ne_true, List.foldl_append]
          obtain ⟨o1, o2, -⟩ := put_open (.mk 1 n a ⟨#[]⟩ []) hok rfl
          have hln : lastN ⟨#[]⟩ (openN (d + 1) (putN d (.mk 1 n a ⟨#[]⟩ []) L)) = n := by
            rw [o2]; unfold lastN; simp; rfl
          rw [ih1 _ (d + 1) false o1 (fun x hx hk => by
            rw [hln]
            have h := List.all_eq_true.1 a3 x hx
            unfold M6.fitsB at h
            change (if M3.voidB n.data.toList = true then false else if M3.rawB n.data.toList = true then isText x && _ else !(decide (x.kind = 1) && M6.closesB n.data.toList x.name.data.toList)) = true at h
            rw [hv, if_neg Bool.false_ne_true] at h
            split at h
            · rw [Bool.and_eq_true] at h
              have : x.kind = 2 := by simpa [isText] using h.1
              omega
            · simpa [hk] using h) a4 m2]
          have hks : putAll (d + 1) ks (putN d (.mk 1 n a ⟨#[]⟩ []) L) = putN d (.mk 1 n a ⟨#[]⟩ ks) L := by
            rw [putAll_kids _ ks hok rfl]
            have hm : ks.foldl push [] = ks := by
              have := M3.merge_apart ks [] (fun y h => by simp at h) (may_apart m2)
              simpa using this
            show putN d (wk (.mk 1 n a ⟨#[]⟩ []) (ks.foldl push [])) L = _
            rw [hm]
            rfl
          rw [hks]
          obtain ⟨q1, q2, -⟩ := put_open (.mk 1 n a ⟨#[]⟩ ks) hok rfl
          show step _ (endT _) = _
          unfold step
          rw [if_neg (show ¬ (endT (.mk 1 n a ⟨#[]⟩ ks)).kind = 1 by show ¬ (2 : Int) = 1; decide), if_pos (show (endT (.mk 1 n a ⟨#[]⟩ ks)).kind = 2 from rfl)]
          show (match endAt (openN (d + 1) (putN d _ L)) n (d + 1) with | some i => (⟨_, i⟩ : St) | none => _) = _
          rw [q2]
          have := endAt_last (openN d L) n
          rw [hol] at this
          rw [show (openN d L ++ [(Nd.mk 1 n a ⟨#[]⟩ ks).name]) = openN d L ++ [n] from rfl, this]
        · have hks : ks = [] := by
            cases ks with
            | nil => rfl
            | cons x r =>
              have h := List.all_eq_true.1 a3 x (by show x ∈ x :: r; simp)
              unfold M6.fitsB at h
              rw [show (Nd.mk 1 n a ⟨#[]⟩ (x :: r)).name = n from rfl, hv] at h
              simp at h
          subst hks
          rfl
      · unfold tokOne
        have hk : k = 2 := hk
        rw [if_neg (show ¬ (Nd.mk k n a t ks).kind = 1 by show ¬ k = 1; omega), if_pos (show (Nd.mk k n a t ks).kind = 2 from hk), hx]
        rfl
      · unfold tokOne
        have hk : k = 3 := hk
        rw [if_neg (show ¬ (Nd.mk k n a t ks).kind = 1 by show ¬ k = 1; omega), if_neg (show ¬ (Nd.mk k n a t ks).kind = 2 by show ¬ k = 2; omega), hx]
        rfl
    rw [key]
    obtain ⟨k1, k2, -⟩ := put_keeps (.mk k n a t ks) hok
    rw [ih2 _ d _ k1 (fun x hx => by rw [k2]; exact hc x (by simp [hx])) a2 m3]
    rfl
/-- Nodes' tokens, built, are they. -/
theorem tree_nodes {l : List Nd} (hall : M6.allB l = true) (hmay : mayE false l = 0) : tree (toksN l) = l := by
  show ((toksN l).foldl step ⟨[], 0⟩).L = l
  rw [run_nodes l [] 0 false trivial (fun x _ _ => closed_none _) hall hmay]
  show l.foldl push [] = l
  have := M3.merge_apart l [] (fun y h => by simp at h) (may_apart hmay)
  simpa using this
end M7
end Go.Proofs.YteefodibpjgicaaGreat

/- Tokens by definitions: a written text is one token of characters. -/
namespace Go.Proofs.YteefodibpjgicaaGreat.M5
theorem esc_lt (v : Bool) (c : UInt8) : ∀ x ∈ M2.esc v c, x ≠ 60 := by
  unfold M2.esc
  split
  · decide
  split
  · decide
  split
  · decide
  split
  · decide
  · rename_i h1 h2 h3 h4
    intro x hx
    simp at hx
    subst hx
    exact h2
theorem escape_lt (v : Bool) (l : List UInt8) : ∀ x ∈ M2.escape v l, x ≠ 60 := by
  intro x hx
  obtain ⟨c, _, h⟩ := List.mem_flatMap.1 hx
  exact esc_lt v c x h
theorem plainN_upto (a b : List UInt8) (h : ∀ x ∈ a, x ≠ 60) : plainN (a ++ b) = a.length + plainN b := by
  have := plainN_skip a.length (a ++ b) (by simp) (fun k hk => by
    cases hs : startsB ((a ++ b).drop k)
    · rfl
    · obtain ⟨t, ht⟩ := starts_head _ hs
      rw [List.drop_append_of_le_length (by omega)] at ht
      rw [List.drop_eq_getElem_cons hk] at ht
      exact absurd (List.cons.inj ht).1 (h _ (List.getElem_mem hk)))
  rw [this]
  congr 2
  simp
theorem escape_ne (v : Bool) (l : List UInt8) (h : l ≠ []) : M2.escape v l ≠ [] := by
  intro e
  have := congrArg M2.decode e
  rw [M2.decode_escape, M2.decode_nil] at this
  exact h this
end Go.Proofs.YteefodibpjgicaaGreat.M5

/- Tokens by definitions: one beginning tag, spelt in two ways. -/
namespace Go.Proofs.YteefodibpjgicaaGreat.M5
theorem quoted_own (q : UInt8) (v t : List UInt8) (h : ∀ x ∈ v, x ≠ q) : quoted q (v ++ q :: t) = (v, t) := by
  unfold quoted
  induction v with
  | nil => simp
  | cons c r ih =>
    have hc : (c != q) = true := bne_iff_ne.2 (h c (by simp))
    have := ih (fun x hx => h x (by simp [hx]))
    simp only [Prod.mk.injEq] at this
    rw [List.cons_append, List.takeWhile_cons, List.dropWhile_cons, hc, if_pos rfl, if_pos rfl, this.1, this.2]
end Go.Proofs.YteefodibpjgicaaGreat.M5

/- Tokens by definitions: written elements without kids are told as their tags. -/
namespace Go.Proofs.YteefodibpjgicaaGreat.M5
theorem tw_all (q : UInt8 → Bool) (a : List UInt8) (x : UInt8) (b : List UInt8) (h : ∀ c ∈ a, q c = true) (hx : q x = false) : (a ++ x :: b).takeWhile q = a ∧ (a ++ x :: b).dropWhile q = x :: b := by
  induction a with
  | nil => rw [List.nil_append, List.takeWhile_cons, List.dropWhile_cons, hx]; exact ⟨rfl, rfl⟩
  | cons c r ih =>
    obtain ⟨i1, i2⟩ := ih (fun y hy => h y (by simp [hy]))
    rw [List.cons_append, List.takeWhile_cons, List.dropWhile_cons, h c (by simp), if_pos rfl, if_pos rfl, i1, i2]
    exact ⟨rfl, rfl⟩
theorem small_own {c : UInt8} (h : M3.capB c = false) : M1.small c = c := by
  unfold M3.capB at h
  unfold M1.small
  rw [if_neg]
  simpa using h
theorem fold_own (l : List UInt8) (h : ∀ c ∈ l, M3.capB c = false) : M1.fold l = l := by
  unfold M1.fold
  induction l with
  | nil => rfl
  | cons c r ih => rw [List.map_cons, small_own (h c (by simp)), ih (fun y hy => h y (by simp [hy]))]
theorem att_facts {l : List UInt8} (h : M3.attributedB l = true) : (∃ c r, l = c :: r) ∧ (∀ c ∈ l, M3.capB c = false) ∧ ∀ c ∈ l, keyB c = true ∧ c ≠ 62 := by
  unfold M3.attributedB at h
  rw [Bool.and_eq_true, Bool.and_eq_true, Bool.and_eq_true] at h
  obtain ⟨h1, ⟨_, h2⟩, h3⟩ := h
  refine ⟨?_, fun c hc => ?_, fun c hc => ?_⟩
  · cases l with
    | nil => cases h1
    | cons c r => exact ⟨c, r, rfl⟩
  · have := List.any_eq_false.1 (by simpa using h2) c hc
    simpa using this
  · have := List.any_eq_false.1 (show l.any M3.badB = false by simpa using h3) c hc
    have hb : M3.badB c = false := by simpa using this
    unfold M3.badB at hb
    simp only [Bool.or_eq_false_iff] at hb
    obtain ⟨⟨⟨⟨⟨⟨b9, b10⟩, b12⟩, b32⟩, b47⟩, b62⟩, b61⟩ := hb
    have key : ∀ d : UInt8, (c.toNat == d.toNat) = false → (c == d) = false := fun d hd => by
      rw [beq_eq_false_iff_ne] at hd ⊢
      intro e
      exact hd (by rw [e])
    have k62 := key 62 b62
    refine ⟨?_, beq_eq_false_iff_ne.1 k62⟩
    unfold keyB stopB blankB
    rw [key 9 b9, key 10 b10, key 12 b12, key 32 b32, key 47 b47, k62, key 61 b61]
    rfl
theorem name_facts {l : List UInt8} (h : M3.namedB l = true) : (∃ c r, l = c :: r ∧ letterB c = true) ∧ (∀ c ∈ l, M3.capB c = false) ∧ ∀ c ∈ l, nameB c = true := by
  cases l with
  | nil => cases h
  | cons c r =>
    have h' : (M3.smallB c && r.all M3.nameB) = true := h
    rw [Bool.and_eq_true] at h'
    obtain ⟨h1, h2⟩ := h'
    have hs : ∀ d : UInt8, M3.smallB d = true → letterB d = true ∧ M3.capB d = false ∧ nameB d = true := fun d hd => by
      unfold M3.smallB at hd
      have hd := of_decide_eq_true hd
      have hl : letterB d = true := by unfold letterB; simp; omega
      refine ⟨hl, ?_, ?_⟩
      · unfold M3.capB; simp; omega
      · unfold nameB; rw [hl]; rfl
    have hn : ∀ d : UInt8, M3.nameB d = true → M3.capB d = false ∧ nameB d = true := fun d hd => by
      unfold M3.nameB at hd
      rw [Bool.or_eq_true] at hd
      rcases hd with hd | hd
      · exact ⟨(hs d hd).2.1, (hs d hd).2.2⟩
      · have hd := of_decide_eq_true hd
        refine ⟨by unfold M3.capB; simp; omega, ?_⟩
        unfold nameB
        rcases hd with h45 | h48
        · have : d = 45 := UInt8.toNat_inj.1 h45
          subst this
          decide
        · rw [show decide (48 ≤ d.toNat ∧ d.toNat ≤ 57) = true from decide_eq_true h48]
          simp
    refine ⟨⟨c, r, rfl, (hs c h1).1⟩, fun d hd => ?_, fun d hd => ?_⟩
    · rcases List.mem_cons.1 hd with rfl | hd
      · exact (hs _ h1).2.1
      · exact (hn _ (List.all_eq_true.1 h2 _ hd)).1
    · rcases List.mem_cons.1 hd with rfl | hd
      · exact (hs _ h1).2.2
      · exact (hn _ (List.all_eq_true.1 h2 _ hd)).2
theorem key_over {c : UInt8} (h : keyB c = true) : overB c = false := by
  unfold keyB stopB at h
  unfold overB
  revert h
  cases blankB c <;> cases (c == 47) <;> cases (c == 62) <;> cases (c == 61) <;> simp
theorem attB_step (a : Att) (rest : List UInt8) (acc : List Att) (h : M3.attributedB a.name.data.toList = true) : attsR (M4.attB a ++ rest) acc = attsR rest (addT acc a) := by
  obtain ⟨⟨c, r, hc⟩, hcap, hk⟩ := att_facts h
  obtain ⟨X, hX⟩ : ∃ X, X = a.name.data.toList ++ 61 :: (34 :: (M2.escape true a.value.data.toList ++ 34 :: rest)) := ⟨_, rfl⟩
  have e1 : M4.attB a ++ rest = 32 :: X := by rw [hX]; unfold M4.attB; simp
  have hXc : X = c :: (r ++ 61 :: (34 :: (M2.escape true a.value.data.toList ++ 34 :: rest))) := by rw [hX, hc]; rfl
  have hkc := hk c (by rw [hc]; simp)
  have e2 : attsR (32 :: X) acc = attsR X acc := by
    rw [atts_over (32 :: X), atts_over X]
    rfl
  rw [e1, e2, hXc, atts_one c _ acc (key_over hkc.1) hkc.2, ← hXc]
  obtain ⟨t1, t2⟩ := tw_all keyB a.name.data.toList 61 (34 :: (M2.escape true a.value.data.toList ++ 34 :: rest)) (fun d hd => (hk d hd).1) (by decide)
  have hq := quoted_own 34 (M2.escape true a.value.data.toList) rest (fun x hx => (M2.escape_bare _ x hx).2.2)
  have hat : attC X = (a, rest) := by
    rw [attC_61 X (34 :: (M2.escape true a.value.data.toList ++ 34 :: rest)) (by rw [hX, t2]; rfl)]
    have hv : valC ((34 :: (M2.escape true a.value.data.toList ++ 34 :: rest)).dropWhile blankB) = (M2.escape true a.value.data.toList, rest) := by
      show valC (34 :: (M2.escape true a.value.data.toList ++ 34 :: rest)) = _
      rw [valC, if_pos (Or.inl rfl), hq]
    rw [hv, hX, t1, fold_own _ hcap, M2.decode_escape, bs_of, bs_of]
  rw [hat]
theorem addT_new (acc : List Att) (a : Att) (h : ∀ b ∈ acc, b.name ≠ a.name) : addT acc a = acc ++ [a] := by
  unfold addT
  rw [if_neg]
  intro hany
  obtain ⟨b, hb, he⟩ := List.any_eq_true.1 hany
  exact h b hb (M3.eqB_iff.1 he)
theorem atts_written (rest : List UInt8) : ∀ (l acc : List Att), (∀ a ∈ l, M3.attributedB a.name.data.toList = true) → l.Pairwise (fun a b => a.name ≠ b.name) → (∀ b ∈ acc, ∀ a ∈ l, b.name ≠ a.name) → attsR (M4.attsB l ++ 62 :: rest) acc = some (acc ++ l, rest) := by
  intro l
  induction l with
  | nil =>
    intro acc _ _ _
    show attsR (62 :: rest) acc = _
    rw [attsR_cons, if_pos rfl, List.append_nil]
  | cons a l ih =>
    intro acc h1 h2 h3
    obtain ⟨p1, p2⟩ := List.pairwise_cons.1 h2
    have e : M4.attsB (a :: l) ++ 62 :: rest = M4.attB a ++ (M4.attsB l ++ 62 :: rest) := by unfold M4.attsB; rw [List.flatMap_cons, List.append_assoc]
    rw [e, attB_step a _ acc (h1 a (by simp)), addT_new acc a (fun b hb => h3 b hb a (by simp)), ih (acc ++ [a]) (fun b hb => h1 b (by simp [hb])) p2 (fun b hb c hc => by
      rcases List.mem_append.1 hb with hb | hb
      · exact h3 b hb c (by simp [hc])
      · rw [List.mem_singleton] at hb
        subst hb
        exact p1 c hc), List.append_assoc]
    rfl
def AttsOk (l : List Att) : Prop := (∀ a ∈ l, M3.attributedB a.name.data.toList = true) ∧ l.Pairwise (fun a b => a.name ≠ b.name)
theorem head_written (n : ByteArray) (l : List Att) (rest : List UInt8) (hn : M3.namedB n.data.toList = true) (hl : AttsOk l) : startsB (M4.headB n l ++ rest) = true ∧ tagR (M4.headB n l ++ rest) = (⟨1, n, l, ⟨#[]⟩⟩, rest) := by
  obtain ⟨⟨c, r, hc, hlc⟩, hcap, hnb⟩ := name_facts hn
  have e : M4.headB n l ++ rest = 60 :: (n.data.toList ++ (M4.attsB l ++ 62 :: rest)) := by unfold M4.headB; simp
  have hx : ∃ x b, M4.attsB l ++ 62 :: rest = x :: b ∧ nameB x = false := by
    cases l with
    | nil => exact ⟨62, rest, rfl, by decide⟩
    | cons a l => exact ⟨32, _, rfl, by decide⟩
  obtain ⟨x, b, hxb, hx⟩ := hx
  obtain ⟨t1, t2⟩ := tw_all nameB n.data.toList x b hnb hx
  rw [← hxb] at t1 t2
  have hs : startsB (60 :: (n.data.toList ++ (M4.attsB l ++ 62 :: rest))) = true := by
    rw [hc]
    show (60 == 60 && (letterB c || c == 33 || c == 63 || c == 47)) = true
    rw [hlc]
    rfl
  rw [e]
  refine ⟨hs, ?_⟩
  have hb : beginR (60 :: (n.data.toList ++ (M4.attsB l ++ 62 :: rest))) = (⟨1, n, l, ⟨#[]⟩⟩, rest) := by
    rw [begin_eq]
    show (match attsR ((n.data.toList ++ (M4.attsB l ++ 62 :: rest)).dropWhile nameB) [] with | some (as_, r) => ((⟨1, bs (M1.fold ((n.data.toList ++ (M4.attsB l ++ 62 :: rest)).takeWhile nameB)), as_, ⟨#[]⟩⟩ : Tok), r) | none => (zero, [])) = _
    rw [t1, t2, atts_written rest l [] hl.1 hl.2 (fun b hb => nomatch hb), fold_own _ hcap, bs_of]
    rfl
  rw [hc] at hb hs ⊢
  unfold tagR
  rw [if_pos hs]
  show (if letterB c then _ else _ : Tok × List UInt8) = _
  rw [if_pos hlc]
  exact hb
theorem end_written (n : ByteArray) (rest : List UInt8) (hn : M3.namedB n.data.toList = true) : startsB ([60, 47] ++ (n.data.toList ++ [62]) ++ rest) = true ∧ tagR ([60, 47] ++ (n.data.toList ++ [62]) ++ rest) = (⟨2, n, [], ⟨#[]⟩⟩, rest) := by
  obtain ⟨⟨c, r, hc, hlc⟩, hcap, hnb⟩ := name_facts hn
  have e : [60, 47] ++ (n.data.toList ++ [62]) ++ rest = 60 :: 47 :: (n.data.toList ++ 62 :: rest) := by simp
  rw [e]
  have hs : startsB (60 :: 47 :: (n.data.toList ++ 62 :: rest)) = true := rfl
  refine ⟨hs, ?_⟩
  obtain ⟨t1, _⟩ := tw_all nameB n.data.toList 62 rest hnb (by decide)
  obtain ⟨u1, _⟩ := tw_all (· != 62) n.data.toList 62 rest (fun d hd => by
    rw [bne_iff_ne]
    intro e
    have := hnb d hd
    rw [e] at this
    exact absurd this (by decide)) rfl
  have hf : findL [62] (n.data.toList ++ 62 :: rest) = n.data.toList.length := by rw [findL_span]; unfold spanN; rw [u1]
  unfold tagR
  rw [if_pos hs]
  show (if letterB 47 then _ else _ : Tok × List UInt8) = _
  rw [show letterB 47 = false from by decide, if_neg Bool.false_ne_true]
  have p4 : [60, 33, 45, 45].isPrefixOf (60 :: 47 :: (n.data.toList ++ 62 :: rest)) = false := rfl
  have p3 : [60, 47, 62].isPrefixOf (60 :: 47 :: (n.data.toList ++ 62 :: rest)) = false := by
    rw [hc]
    show (60 == 60 && (47 == 47 && (62 == c && _))) = false
    have : ((62 : UInt8) == c) = false := by
      rw [beq_eq_false_iff_ne]
      intro e
      subst e
      exact absurd hlc (by decide)
    rw [this]
    rfl
  rw [p4, p3, if_neg Bool.false_ne_true, if_neg Bool.false_ne_true, if_pos ⟨rfl, by rw [hc]; exact congrArg some hlc⟩, hf, if_pos (by rw [List.length_append]; simp), t1, fold_own _ hcap, bs_of]
  congr 1
  rw [List.drop_append, List.drop_of_length_le (by omega), List.nil_append, Nat.add_sub_cancel_left]
  rfl
end Go.Proofs.YteefodibpjgicaaGreat.M5

/- Tokens by definitions: written elements without kids, a list of them, told. -/
namespace Go.Proofs.YteefodibpjgicaaGreat.M5
theorem names_atts (l : List Att) : ∀ seen : List ByteArray, M3.namesE seen l = 0 → (∀ a ∈ l, M3.attributedB a.name.data.toList = true) ∧ l.Pairwise (fun a b => a.name ≠ b.name) ∧ ∀ a ∈ l, ∀ s ∈ seen, s ≠ a.name := by
  induction l with
  | nil => intro seen _; exact ⟨fun a h => (nomatch h), List.Pairwise.nil, fun a h => (nomatch h)⟩
  | cons a r ih =>
    intro seen h
    have h : (if M3.attributedB a.name.data.toList then (if seen.any (M3.eqB a.name) then 5 else M3.namesE (seen ++ [a.name]) r) else 4) = (0 : Int) := h
    split at h
    · rename_i ha
      split at h
      · exact absurd h (by decide)
      · rename_i hs
        obtain ⟨i1, i2, i3⟩ := ih _ h
        have hns : ∀ s ∈ seen, s ≠ a.name := fun s hm e => hs (List.any_eq_true.2 ⟨s, hm, M3.eqB_iff.2 e.symm⟩)
        refine ⟨fun b hb => ?_, List.pairwise_cons.2 ⟨fun b hb => i3 b hb a.name (by simp), i2⟩, fun b hb s hm => ?_⟩
        · rcases List.mem_cons.1 hb with rfl | hb
          · exact ha
          · exact i1 b hb
        · rcases List.mem_cons.1 hb with rfl | hb
          · exact hns s hm
          · exact i3 b hb s (by simp [hm])
    · exact absurd h (by decide)
/-- How long at most. -/
def SmallN (x : Nd) : Prop := x.name.size ≤ 30 ∧ ∀ a ∈ x.attrs, a.name.size ≤ 30 ∧ a.value.size ≤ 120
end Go.Proofs.YteefodibpjgicaaGreat.M5

/- Layer 8: what stable nodes are written as is told as their tokens. No program in it. -/
namespace Go.Proofs.YteefodibpjgicaaGreat
namespace M5
/-! ### Where a word is found -/
theorem find_skip (w l : List UInt8) (k : Nat) (hk : k ≤ l.length) (h : ∀ i, i < k → w.isPrefixOf (l.drop i) = false) : findL w l = k + findL w (l.drop k) := by
  induction k generalizing l with
  | zero => simp
  | succ k ih =>
    cases l with
    | nil => simp at hk
    | cons c r =>
      have h0 := h 0 (by omega)
      rw [List.drop_zero] at h0
      rw [findL, h0, if_neg Bool.false_ne_true, ih r (by simp at hk; omega) (fun i hi => by have := h (i + 1) (by omega); simpa using this), List.drop_succ_cons]
      omega
theorem find_none {w l : List UInt8} (h : findL w l = l.length) : ∀ i, i < l.length → w.isPrefixOf (l.drop i) = false := by
  induction l with
  | nil => intro i hi; simp at hi
  | cons c r ih =>
    rw [findL] at h
    split at h
    · simp at h
    · rename_i h0
      intro i hi
      cases i with
      | zero => exact Bool.eq_false_iff.2 h0
      | succ i => exact ih (by simp at h; exact h) i (by simpa using hi)
theorem find_here (w z : List UInt8) (hw : w ≠ []) : findL w (w ++ z) = 0 := by
  cases w with
  | nil => exact absurd rfl hw
  | cons c r =>
    rw [List.cons_append, findL, if_pos]
    have : (c :: r).isPrefixOf ((c :: r) ++ z) = true := by simp
    exact this
/-- A comment's end. -/
theorem find_rem (t z : List UInt8) (h : findL [45, 45, 62] t = t.length) : findL [45, 45, 62] (t ++ ([45, 45, 62] ++ z)) = t.length := by
  rw [find_skip _ _ t.length (by simp) (fun i hi => ?_), List.drop_left, find_here _ _ (by simp)]
  · omega
  · have h1 := find_none h i hi
    rw [List.drop_append_of_le_length (by omega)]
    have hl : 0 < (t.drop i).length := by rw [List.length_drop]; omega
    generalize t.drop i = a at *
    match a with
    | [] => simp at hl
    | [c] =>
      simp only [List.cons_append, List.nil_append, List.isPrefixOf]
      simp
    | [c, d] =>
      simp only [List.cons_append, List.nil_append, List.isPrefixOf]
      simp
    | c :: d :: e :: r =>
      simp only [List.cons_append, List.isPrefixOf] at h1 ⊢
      exact h1
theorem upto_rem (t z : List UInt8) (h : findL [45, 45, 62] t = t.length) : uptoR [45, 45, 62] (t ++ ([45, 45, 62] ++ z)) = (t, z) := by
  unfold uptoR
  rw [find_rem t z h, if_pos (by simp)]
  congr 1
  · simp
  · rw [List.drop_append, List.drop_of_length_le (by omega), List.nil_append, Nat.add_sub_cancel_left]
    rfl
theorem comm_written (t : ByteArray) (z : List UInt8) (h : findL [45, 45, 62] t.data.toList = t.data.toList.length) : startsB (M4.commB t ++ z) = true ∧ tagR (M4.commB t ++ z) = (⟨4, ⟨#[]⟩, [], t⟩, z) := by
  have e : M4.commB t ++ z = 60 :: 33 :: 45 :: 45 :: (t.data.toList ++ ([45, 45, 62] ++ z)) := by
    unfold M4.commB
    simp
  have hs : startsB (60 :: 33 :: 45 :: 45 :: (t.data.toList ++ ([45, 45, 62] ++ z))) = true := rfl
  rw [e]
  refine ⟨hs, ?_⟩
  rw [tagR, if_pos hs]
  show (if letterB 33 then _ else if [60, 33, 45, 45].isPrefixOf (60 :: 33 :: 45 :: 45 :: (t.data.toList ++ ([45, 45, 62] ++ z))) then _ else _ : Tok × List UInt8) = _
  rw [if_neg (by decide), if_pos (by simp)]
  show ((⟨4, ⟨#[]⟩, [], bs (uptoR [45, 45, 62] (t.data.toList ++ ([45, 45, 62] ++ z))).1⟩ : Tok), (uptoR [45, 45, 62] (t.data.toList ++ ([45, 45, 62] ++ z))).2) = _
  rw [upto_rem _ _ h, bs_of]

/-! ### Where a raw element ends -/
def stopH : List UInt8 → Bool
  | d :: _ => blankB d || d == 47 || d == 62
  | [] => false
theorem ends_step (w : List UInt8) (c : UInt8) (r : List UInt8) : endsL w (c :: r) = if (M1.fold ((c :: r).take w.length) == w && stopH ((c :: r).drop w.length)) = true then some 0 else (endsL w r).map (· + 1) := by
  rw [endsL]
  cases (c :: r).drop w.length <;> rfl
theorem ends_len (w : List UInt8) : ∀ (l : List UInt8) (k : Nat), endsL w l = some k → k + w.length < l.length := by
  intro l
  induction l with
  | nil => intro k h; cases h
  | cons c r ih =>
    intro k h
    rw [ends_step] at h
    by_cases hh : (M1.fold ((c :: r).take w.length) == w && stopH ((c :: r).drop w.length)) = true
    · rw [if_pos hh] at h
      have h : 0 = k := by simpa using h
      subst h
      simp only [Bool.and_eq_true] at hh
      have h2 := hh.2
      cases hd : (c :: r).drop w.length with
      | nil => rw [hd] at h2; cases h2
      | cons d t =>
        have := congrArg List.length hd
        rw [List.length_drop] at this
        simp only [List.length_cons] at this ⊢
        omega
    · rw [if_neg hh] at h
      cases hr : endsL w r with
      | none => rw [hr] at h; cases h
      | some j =>
        rw [hr] at h
        have := ih j hr
        have : j + 1 = k := by simpa using h
        simp only [List.length_cons]
        omega
theorem ends_ext (w : List UInt8) : ∀ (l z : List UInt8) (k : Nat), endsL w l = some k → endsL w (l ++ z) = some k := by
  intro l
  induction l with
  | nil => intro z k h; cases h
  | cons c r ih =>
    intro z k h
    have hl := ends_len w _ _ h
    have ht : ((c :: r) ++ z).take w.length = (c :: r).take w.length := List.take_append_of_le_length (by omega)
    have hd : ((c :: r) ++ z).drop w.length = (c :: r).drop w.length ++ z := List.drop_append_of_le_length (by omega)
    rw [List.cons_append] at ht hd ⊢
    rw [ends_step] at h ⊢
    rw [ht, hd]
    have hm : stopH ((c :: r).drop w.length ++ z) = stopH ((c :: r).drop w.length) := by
      cases hq : (c :: r).drop w.length with
      | nil =>
        have := congrArg List.length hq
        rw [List.length_drop] at this
        simp only [List.length_nil] at this
        omega
      | cons d t => rfl
    rw [hm]
    by_cases hc : (M1.fold ((c :: r).take w.length) == w && stopH ((c :: r).drop w.length)) = true
    · rw [if_pos hc] at h ⊢; exact h
    · rw [if_neg hc] at h ⊢
      cases hr : endsL w r with
      | none => rw [hr] at h; cases h
      | some j =>
        rw [hr] at h
        rw [ih z j hr]
        exact h
theorem ends_here (w z : List UInt8) (hw : M1.fold w = w) (h0 : w ≠ []) : endsL w (w ++ 62 :: z) = some 0 := by
  cases w with
  | nil => exact absurd rfl h0
  | cons c r =>
    rw [List.cons_append, ends_step, if_pos]
    have e1 : (c :: (r ++ 62 :: z)).take (c :: r).length = c :: r := by
      rw [← List.cons_append, List.take_left]
    have e2 : (c :: (r ++ 62 :: z)).drop (c :: r).length = 62 :: z := by
      rw [← List.cons_append, List.drop_left]
    rw [e1, e2, hw]
    simp [stopH]

/-! ### Nodes -/
theorem keep_ne {t : Tok} (h : t.kind ≠ 0) : keepT t = [t] := if_pos h
/-- What is no text begins with a tag or a comment. -/
theorem one_starts {x : Nd} {p : Bool} (z : List UInt8) (h : M3.oneE x p = 0) (hs : M6.remB x = false) (ht : x.kind ≠ 2) : startsB (M4.oneB false x ++ z) = true := by
  rcases M7.one_kinds h with ⟨hk, -, hn, ha, -⟩ | ⟨hk, -⟩ | ⟨hk, -⟩
  · rw [M4.oneB_1 hk, List.append_assoc]
    obtain ⟨a1, a2, -⟩ := names_atts _ _ ha
    exact (head_written x.name x.attrs _ hn ⟨a1, a2⟩).1
  · exact absurd hk ht
  · rw [M4.oneB_3 hk]
    have : findL [45, 45, 62] x.text.data.toList = x.text.data.toList.length := by
      unfold M6.remB M6.hasB at hs
      rw [hk] at hs
      have := findL_le [45, 45, 62] x.text.data.toList
      have : ¬ findL [45, 45, 62] x.text.data.toList < x.text.data.toList.length := by simpa using hs
      omega
    exact (comm_written x.text z this).1
def Tagged (z : List UInt8) : Prop := z = [] ∨ startsB z = true
theorem rest_tagged (r : List Nd) (z : List UInt8) (hz : Tagged z) (hmay : M3.mayE true r = 0) (hall : M6.allB r = true) : Tagged (M4.textB false r ++ z) := by
  cases r with
  | nil => rw [M4.textB_nil]; exact hz
  | cons y r =>
    obtain ⟨m1, -, -⟩ := M7.may_cons hmay
    rw [M6.allB_cons, Bool.and_eq_true] at hall
    have hr : M6.remB y = false := by
      have := hall.1
      unfold M6.oneS at this
      simp only [Bool.and_eq_true, Bool.not_eq_true'] at this
      exact this.1
    rw [M4.textB_cons, List.append_assoc]
    refine .inr (one_starts _ m1 hr ?_)
    intro hk
    rcases M7.one_kinds m1 with h | h | h
    · omega
    · exact absurd h.2.2.2.2 (by simp)
    · omega
theorem text_written (t : List UInt8) (z : List UInt8) (hz : Tagged z) (ht : t ≠ []) : toksR [] (M2.escape false t ++ z) = ⟨3, ⟨#[]⟩, [], bs t⟩ :: toksR [] z := by
  have hne := escape_ne false t ht
  have hp := plainN_upto (M2.escape false t) z (escape_lt false t)
  have hpz : plainN z = 0 := by
    rcases hz with rfl | h
    · rfl
    · exact plainN_yes z h
  rw [hpz, Nat.add_zero] at hp
  have hs : startsB (M2.escape false t ++ z) = false := by
    cases hs : startsB (M2.escape false t ++ z)
    · rfl
    · obtain ⟨u, hu⟩ := starts_head _ hs
      cases he : M2.escape false t with
      | nil => exact absurd he hne
      | cons c r =>
        rw [he, List.cons_append] at hu
        injection hu with h1 h2
        exact absurd h1 (escape_lt false t c (by rw [he]; simp))
  rw [toks_step _ (by intro e; exact hne (List.append_eq_nil_iff.1 e).1) hs, hp, List.take_left, List.drop_left, M2.decode_escape]
/-- Stable nodes' text is told as their tokens. -/
theorem toks_nodes (l : List Nd) : ∀ (p : Bool) (z : List UInt8), Tagged z → M6.allB l = true → M3.mayE p l = 0 → toksR [] (M4.textB false l ++ z) = M7.toksN l ++ toksR [] z := by
  induction l using Nd.ind with
  | h0 => intro p z _ _ _; rw [M4.textB_nil, M7.toksN_nil]; rfl
  | h1 k n a t ks r ih1 ih2 =>
    intro p z hz hall hmay
    obtain ⟨m1, m2, m3⟩ := M7.may_cons hmay
    rw [M6.allB_cons, Bool.and_eq_true] at hall
    obtain ⟨a1, a2⟩ := hall
    unfold M6.oneS at a1
    simp only [Bool.and_eq_true, Bool.not_eq_true'] at a1
    obtain ⟨ar, a3, a4⟩ := a1
    rw [M4.textB_cons, M7.toksN_cons, List.append_assoc, List.append_assoc]
    have hrest : toksR [] (M4.textB false r ++ z) = M7.toksN r ++ toksR [] z := ih2 _ z hz a2 m3
    rcases M7.one_kinds m1 with ⟨hk, ht, hn, ha, -⟩ | ⟨hk, hx, -, hne, -⟩ | ⟨hk, hx, -⟩
    · have hk : k = 1 := hk
      have ht : t = ⟨#[]⟩ := ht
      subst hk ht
      obtain ⟨b1, b2, -⟩ := names_atts _ _ ha
      have hA : AttsOk a := ⟨b1, b2⟩
      have hn : M3.namedB n.data.toList = true := hn
      rw [M4.oneB_1 rfl]
      show toksR [] ((M4.headB n a ++ (M4.innerB (M3.voidB n.data.toList) (M3.rawB n.data.toList) ks ++ M4.endB n)) ++ (M4.textB false r ++ z)) = M7.tokOne (.mk 1 n a ⟨#[]⟩ ks) ++ (M7.toksN r ++ toksR [] z)
      rw [← hrest, List.append_assoc]
      generalize M4.textB false r ++ z = y
      obtain ⟨s1, g1⟩ := head_written n a ((M4.innerB (M3.voidB n.data.toList) (M3.rawB n.data.toList) ks ++ M4.endB n) ++ y) hn hA
      have hto : M7.tokOne (.mk 1 n a ⟨#[]⟩ ks) = ⟨1, n, a, ⟨#[]⟩⟩ :: (if M3.voidB n.data.toList then [] else M7.toksN ks ++ [⟨2, n, [], ⟨#[]⟩⟩]) := by
        unfold M7.tokOne; rw [if_pos (show (Nd.mk 1 n a ⟨#[]⟩ ks).kind = 1 from rfl)]; rfl
      rw [hto]
      have hkb : keepT (⟨1, n, a, ⟨#[]⟩⟩ : Tok) = [⟨1, n, a, ⟨#[]⟩⟩] := rfl
      cases hv : M3.voidB n.data.toList
      · have hend : M4.endB n = [60, 47] ++ (n.data.toList ++ [62]) := by unfold M4.endB; rw [hv]; rfl
        rw [hv, hend, List.append_assoc] at s1 g1
        rw [hend, if_neg Bool.false_ne_true, List.append_assoc (M4.innerB _ _ _)]
        obtain ⟨s2, g2⟩ := end_written n y hn
        have hendt : toksR [] ([60, 47] ++ (n.data.toList ++ [62]) ++ y) = ⟨2, n, [], ⟨#[]⟩⟩ :: toksR [] y := by
          rw [round_tag _ s2 (by rw [g2]; intro h; exact absurd h.1 (by show ¬ (2 : Int) = 1; decide)), g2]
          rfl
        cases hr : M3.rawB n.data.toList
        · rw [hr] at s1 g1
          rw [round_tag _ s1 (by rw [g1]; intro h; have := h.2; rw [show (⟨1, n, a, ⟨#[]⟩⟩ : Tok).name = n from rfl, hr] at this; cases this), g1]
          show keepT _ ++ toksR [] (M4.innerB false false ks ++ _) = _
          rw [hkb, M4.innerB_no, ih1 false _ (.inr s2) a4 m2, hendt]
          simp
        · rw [hr] at s1 g1
          rw [round_raw _ s1 (by rw [g1]; exact ⟨rfl, hr⟩), g1]
          show keepT _ ++ (keepT (contC (endN n.data.toList (M4.innerB false true ks ++ _)) (M4.innerB false true ks ++ _)) ++ toksR [] ((M4.innerB false true ks ++ _).drop (endN n.data.toList (M4.innerB false true ks ++ _)))) = _
          rw [hkb, M4.innerB_no]
          have hfit : ∀ x ∈ ks, x.kind = 2 ∧ M6.endsHere n.data.toList x.text.data.toList = true := fun x hx => by
            have h := List.all_eq_true.1 a3 x hx
            unfold M6.fitsB at h
            rw [show (Nd.mk 1 n a ⟨#[]⟩ ks).name = n from rfl, hv, hr, if_neg Bool.false_ne_true, if_pos rfl, Bool.and_eq_true] at h
            exact ⟨by simpa [M3.isText] using h.1, h.2⟩
          obtain ⟨nf1, nf2, nf3⟩ := name_facts hn
          have hfold : M1.fold ([60, 47] ++ n.data.toList) = [60, 47] ++ n.data.toList := by
            unfold M1.fold
            rw [List.map_append]
            have := fold_own _ nf2
            unfold M1.fold at this
            rw [this]
            rfl
          cases ks with
          | nil =>
            have he : endN n.data.toList (M4.textB true [] ++ ([60, 47] ++ (n.data.toList ++ [62]) ++ y)) = 0 := by
              rw [M4.textB_nil, List.nil_append]
              unfold endN
              have := ends_here ([60, 47] ++ n.data.toList) y hfold (by simp)
              rw [show [60, 47] ++ (n.data.toList ++ [62]) ++ y = [60, 47] ++ n.data.toList ++ 62 :: y by simp, this]
              rfl
            rw [he, M4.textB_nil, List.drop_zero, List.nil_append, hendt, M7.toksN_nil]
            rfl
          | cons x r' =>
            obtain ⟨x1, x2⟩ := hfit x (by simp)
            obtain ⟨c1, -, c3⟩ := M7.may_cons m2
            have hr' : r' = [] := by
              cases r' with
              | nil => rfl
              | cons y' r'' =>
                obtain ⟨y1, -⟩ := hfit y' (by simp)
                rw [x1] at c3
                obtain ⟨d1, -, -⟩ := M7.may_cons c3
                rcases M7.one_kinds d1 with h | h | h
                · omega
                · exact absurd h.2.2.2.2 (by simp)
                · omega
            subst hr'
            have hxn : x.text.data.toList ≠ [] := by
              rcases M7.one_kinds c1 with h | h | h
              · omega
              · intro e
                have := h.2.2.2.1
                rw [M3.nilB_data', e] at this
                cases this
              · omega
            have htx : M4.textB true [x] = x.text.data.toList := by
              rw [M4.textB_cons, M4.textB_nil, List.append_nil, M4.oneB_2 x1]
              rfl
            have he : endN n.data.toList (x.text.data.toList ++ ([60, 47] ++ (n.data.toList ++ [62]) ++ y)) = x.text.data.toList.length := by
              unfold M6.endsHere at x2
              have x2 : endsL ([60, 47] ++ n.data.toList) (x.text.data.toList ++ ([60, 47] ++ n.data.toList ++ [62])) = some x.text.data.toList.length := by simpa using x2
              have := ends_ext _ _ y _ x2
              unfold endN
              rw [show x.text.data.toList ++ ([60, 47] ++ (n.data.toList ++ [62]) ++ y) = x.text.data.toList ++ ([60, 47] ++ n.data.toList ++ [62]) ++ y by simp, this]
              rfl
            rw [htx, he, List.drop_left, hendt]
            have hlen : x.text.data.toList.length ≠ 0 := fun e => hxn (List.eq_nil_of_length_eq_zero e)
            have hto1 : M7.toksN [x] = [⟨3, ⟨#[]⟩, [], x.text⟩] := by
              rw [M7.toksN_cons, M7.toksN_nil, List.append_nil]
              unfold M7.tokOne
              rw [if_neg (by omega), if_pos x1]
            unfold contC
            rw [if_neg hlen, List.take_left, bs_of, hto1]
            rfl
      · have hend : M4.endB n = [] := by unfold M4.endB; rw [hv]; rfl
        have hraw : M3.rawB n.data.toList = false := by
          cases hr : M3.rawB n.data.toList
          · rfl
          · unfold M3.voidB at hv
            unfold M3.rawB at hr
            simp only [Bool.or_eq_true, beq_iff_eq] at hr hv
            rcases hr with hr | hr <;> rw [hr] at hv <;> simp at hv
        rw [hv, hend] at s1 g1
        rw [hend]
        rw [round_tag _ s1 (by rw [g1]; intro h; have := h.2; rw [show (⟨1, n, a, ⟨#[]⟩⟩ : Tok).name = n from rfl, hraw] at this; cases this), g1]
        show keepT _ ++ toksR [] (M4.innerB true _ ks ++ [] ++ y) = _
        rw [hkb, M4.innerB_yes]
        rfl
    · have hk : k = 2 := hk
      have hx : Nd.mk k n a t ks = .mk 2 ⟨#[]⟩ [] t [] := hx
      rw [M4.oneB_2 (show (Nd.mk k n a t ks).kind = 2 from hk)]
      have hne : M3.nilB t = false := hne
      have hnt : t.data.toList ≠ [] := fun e => by rw [M3.nilB_data', e] at hne; cases hne
      have htag : Tagged (M4.textB false r ++ z) := rest_tagged r z hz (by have := m3; rw [show (Nd.mk k n a t ks).kind = 2 from hk] at this; exact this) a2
      show toksR [] (M2.escape false t.data.toList ++ (M4.textB false r ++ z)) = _
      rw [text_written _ _ htag hnt, hrest, bs_of]
      unfold M7.tokOne
      rw [if_neg (show ¬ (Nd.mk k n a t ks).kind = 1 by show ¬ k = 1; omega), if_pos (show (Nd.mk k n a t ks).kind = 2 from hk)]
      rfl
    · have hk : k = 3 := hk
      rw [M4.oneB_3 (show (Nd.mk k n a t ks).kind = 3 from hk)]
      have hf : findL [45, 45, 62] t.data.toList = t.data.toList.length := by
        unfold M6.remB M6.hasB at ar
        rw [show (Nd.mk k n a t ks).kind = 3 from hk] at ar
        change (decide ((3 : Int) = 3) && decide (findL [45, 45, 62] t.data.toList < t.data.toList.length)) = false at ar
        have := findL_le [45, 45, 62] t.data.toList
        have : ¬ findL [45, 45, 62] t.data.toList < t.data.toList.length := by
          intro h
          rw [decide_eq_true h] at ar
          cases ar
        omega
      obtain ⟨s1, g1⟩ := comm_written t (M4.textB false r ++ z) hf
      show toksR [] (M4.commB t ++ (M4.textB false r ++ z)) = _
      rw [round_tag _ s1 (by rw [g1]; intro h; exact absurd h.1 (by show ¬ (4 : Int) = 1; decide)), g1]
      show [_] ++ toksR [] (M4.textB false r ++ z) = _
      rw [hrest]
      unfold M7.tokOne
      rw [if_neg (show ¬ (Nd.mk k n a t ks).kind = 1 by show ¬ k = 1; omega), if_neg (show ¬ (Nd.mk k n a t ks).kind = 2 by show ¬ k = 2; omega)]
      rfl
/-- Stable nodes, written and parsed, are they. -/
theorem tree_text {l : List Nd} (h : M6.stableB l = true) : M7.tree (tokens (M4.textB false l)) = l := by
  unfold M6.stableB at h
  rw [Bool.and_eq_true] at h
  have hm : M3.mayE false l = 0 := by simpa using h.1
  have := toks_nodes l false [] (.inl rfl) h.2 hm
  rw [List.append_nil, toksR_nil] at this
  rw [tokens_eq, this]
  show M7.tree (M7.toksN l ++ []) = l
  rw [List.append_nil]
  exact M7.tree_nodes h.2 hm
end M5
end Go.Proofs.YteefodibpjgicaaGreat

/- Layer 8: what the tokens of a right text are like, one behind the other. No program in it. -/
namespace Go.Proofs.YteefodibpjgicaaGreat
namespace M5
open M1 (isB)
theorem not_gt_lo {q c : UInt8} (hq : q.toNat < 128) (h : (c != q) = false) : c.toNat < 128 := by
  have : c = q := by simpa using h
  subst this; exact hq
theorem R.val1 {l : List UInt8} (h : R l) : R (valC l).1 := by
  unfold valC
  cases l with
  | nil => exact R.nil
  | cons q t =>
    show R (if q = 34 ∨ q = 39 then quoted q t else _).1
    split
    · rename_i hq
      have hq' : q.toNat < 128 := by rcases hq with rfl | rfl <;> decide
      exact (R.upto (q := (· != q)) (fun c hc => not_gt_lo hq' hc) (h.drop1 hq')).1
    · exact (R.upto (q := bareB) (fun c hc => bare_lo hc) h).1
theorem R.attv {l : List UInt8} (h : R l) : R (attC l).1.value.data.toList := by
  have h1 : R ((l.dropWhile keyB).dropWhile blankB) := R.drops (fun _ h => blank_lo h) (R.upto (q := keyB) (fun c hc => stop_lo hc) h).2
  by_cases hx : ∃ r, (l.dropWhile keyB).dropWhile blankB = 61 :: r
  · obtain ⟨r, hx⟩ := hx
    rw [attC_61 l r hx]
    rw [hx] at h1
    show R (bs _).data.toList
    rw [bs_data]
    exact M2.isB_decode _ (R.val1 (R.drops (fun _ h => blank_lo h) (h1.drop1 (by decide))))
  · rw [attC_ne l (fun r e => hx ⟨r, e⟩)]
    exact R.nil
theorem addT_mem {acc : List Att} {a b : Att} (h : b ∈ addT acc a) : b ∈ acc ∨ b = a := by
  unfold addT at h
  split at h
  · exact .inl h
  · rcases List.mem_append.1 h with h | h
    · exact .inl h
    · exact .inr (List.mem_singleton.1 h)
theorem atts_right : ∀ (n : Nat) (l : List UInt8) (acc as_ : List Att) (r : List UInt8), l.length ≤ n → R l → (∀ a ∈ acc, R a.value.data.toList) → attsR l acc = some (as_, r) → ∀ a ∈ as_, R a.value.data.toList := by
  intro n
  induction n with
  | zero =>
    intro l acc as_ r hl _ _ h
    obtain rfl : l = [] := List.eq_nil_of_length_eq_zero (by omega)
    rw [attsR_nil] at h; cases h
  | succ n ih =>
    intro l acc as_ r hl hR hacc h
    rw [atts_over] at h
    have hle := (List.dropWhile_suffix (l := l) overB).length_le
    have hR2 : R (l.dropWhile overB) := R.drops (fun _ h => over_lo h) hR
    cases hd : l.dropWhile overB with
    | nil => rw [hd, attsR_nil] at h; cases h
    | cons c t =>
      have hov := over_head l c t hd
      rw [hd] at h hle hR2
      by_cases h62 : c = 62
      · rw [attsR_cons, if_pos h62] at h
        cases h
        exact hacc
      · rw [atts_one c t acc hov h62] at h
        have hlt := attC_lt c t hov h62
        simp only [List.length_cons] at hlt hle
        refine ih _ _ _ _ (by omega) (R.att hR2) (fun a ha => ?_) h
        rcases addT_mem ha with ha | rfl
        · exact hacc a ha
        · exact R.attv hR2
/-! ### Comments -/
theorem pre_take {w l : List UInt8} {k : Nat} (h : w.isPrefixOf (l.take k) = true) : w.isPrefixOf l = true := by
  rw [List.isPrefixOf_iff_prefix] at h ⊢
  exact h.trans (List.take_prefix _ _)
theorem find_lt_no {w l : List UInt8} : ∀ i, i < findL w l → w.isPrefixOf (l.drop i) = false := by
  induction l with
  | nil => intro i hi; simp [findL] at hi
  | cons c r ih =>
    intro i hi
    rw [findL] at hi
    split at hi
    · omega
    · rename_i h0
      cases i with
      | zero => exact Bool.eq_false_iff.2 h0
      | succ i => exact ih i (by omega)
theorem find_all {w l : List UInt8} (h : ∀ i, i < l.length → w.isPrefixOf (l.drop i) = false) : findL w l = l.length := by
  have := find_skip w l l.length (Nat.le_refl _) h
  rw [List.drop_length] at this
  simpa [findL] using this
theorem find_take (w l : List UInt8) (k : Nat) (hk : k ≤ findL w l) : findL w (l.take k) = (l.take k).length := by
  refine find_all (fun i hi => ?_)
  rw [List.length_take] at hi
  cases h : w.isPrefixOf ((l.take k).drop i)
  · rfl
  · rw [List.drop_take] at h
    have := pre_take h
    rw [find_lt_no i (by omega)] at this
    cases this
theorem no_rem {t : List UInt8} (h : findL [62] t = t.length) : findL [45, 45, 62] t = t.length := by
  refine find_all (fun i hi => ?_)
  cases hp : ([45, 45, 62] : List UInt8).isPrefixOf (t.drop i)
  · rfl
  · exfalso
    obtain ⟨b, hb⟩ := List.isPrefixOf_iff_prefix.1 hp
    have hl := congrArg List.length hb
    rw [List.length_drop] at hl
    simp only [List.length_append, List.length_cons, List.length_nil] at hl
    have := find_none h (i + 2) (by omega)
    rw [← List.drop_drop, ← hb] at this
    simp at this
theorem upto_right {w1 : List UInt8} {c : UInt8} (hc : c.toNat < 128) {l : List UInt8} (h : R l) : R (uptoR (c :: w1) l).1 ∧ findL (c :: w1) (uptoR (c :: w1) l).1 = (uptoR (c :: w1) l).1.length := by
  unfold M5.uptoR
  split
  · rename_i hf
    refine ⟨?_, find_take _ _ _ (Nat.le_refl _)⟩
    obtain ⟨b, hb⟩ := find_at _ l hf
    have e := List.take_append_drop (findL (c :: w1) l) l
    rw [hb] at e
    rw [← e] at h
    rw [List.cons_append] at h
    show R (l.take _)
    have h2 := R.head h hc
    exact h2
  · rename_i hf
    have := findL_le (c :: w1) l
    exact ⟨h, by show findL _ l = l.length; omega⟩
/-- A token of a right text. -/
def TokOk (t : Tok) : Prop :=
  (t.kind = 1 ∧ M3.namedB t.name.data.toList = true ∧ AttsOk t.attrs ∧ ∀ a ∈ t.attrs, R a.value.data.toList) ∨ t.kind = 2 ∨
  (t.kind = 3 ∧ R t.text.data.toList ∧ t.text.data.toList ≠ []) ∨ (t.kind = 4 ∧ R t.text.data.toList ∧ findL [45, 45, 62] t.text.data.toList = t.text.data.toList.length)
theorem tag_ok (l : List UInt8) (hs : startsB l = true) (h : R l) (hk : (tagR l).1.kind ≠ 0) : TokOk (tagR l).1 := by
  match l, hs, h, hk with
  | [], hs, _, _ => cases hs
  | [c], hs, _, _ => cases hs
  | c :: d :: r, hs, h, hk =>
    obtain ⟨rfl, hd⟩ := starts_facts hs
    have h1 : R (d :: r) := h.drop1 (by decide)
    have hdl : d.toNat < 128 := by
      rcases hd with hd | rfl | rfl | rfl
      · exact name_lo (by unfold nameB; rw [hd]; rfl)
      · decide
      · decide
      · decide
    have h2 : R r := h1.drop1 hdl
    unfold tagR at hk ⊢
    rw [if_pos hs] at hk ⊢
    change (if letterB d then _ else _ : Tok × List UInt8).1.kind ≠ 0 at hk
    show TokOk (if letterB d then _ else _ : Tok × List UInt8).1
    by_cases hl : letterB d = true
    · rw [if_pos hl, begin_eq] at hk ⊢
      have e : (60 :: d :: r).drop 1 = d :: r := rfl
      rw [e] at hk ⊢
      have h3 : R ((d :: r).dropWhile nameB) := R.drops (fun _ h => name_lo h) h1
      cases ha : attsR ((d :: r).dropWhile nameB) [] with
      | none => rw [ha] at hk; exact absurd rfl hk
      | some p =>
        obtain ⟨as_, q⟩ := p
        obtain ⟨g1, g2⟩ := atts_shape ((d :: r).dropWhile nameB).length _ _ [] as_ q (Nat.le_refl _) (Nat.le_refl _) h3 ⟨fun a h => (nomatch h), List.Pairwise.nil⟩ ha
        have g3 := atts_right _ _ [] as_ q (Nat.le_refl _) h3 (fun a h => (nomatch h)) ha
        refine .inl ⟨rfl, ?_, ⟨fun a ha => (g1.1 a ha).1, g1.2⟩, g3⟩
        show M3.namedB (bs _).data.toList = true
        rw [bs_data]; exact named_tw d r hl
    · rw [if_neg hl] at hk ⊢
      split
      · rename_i hp
        obtain ⟨b, hb⟩ := List.isPrefixOf_iff_prefix.1 hp
        have h4 : R ((60 :: d :: r).drop 4) := by
          rw [← hb] at h ⊢
          exact R.tail (a := [60, 33, 45]) h (by decide)
        have h5 := upto_right (w1 := [45, 62]) (c := 45) (by decide) h4
        refine .inr (.inr (.inr ⟨rfl, ?_, ?_⟩))
        · show R (bs _).data.toList; rw [bs_data]; exact h5.1
        · show findL _ (bs _).data.toList = (bs _).data.toList.length; rw [bs_data]; exact h5.2
      · rename_i hp0
        rw [if_neg hp0] at hk
        split
        · rename_i hp
          rw [if_pos hp] at hk
          exact absurd rfl hk
        · rename_i hp1
          rw [if_neg hp1] at hk
          split
          · rename_i hx
            rw [if_pos hx] at hk
            split
            · exact .inr (.inl rfl)
            · rename_i hf
              rw [if_neg hf] at hk
              exact absurd rfl hk
          · have h5 := upto_right (w1 := []) (c := 62) (by decide) h2
            refine .inr (.inr (.inr ⟨rfl, ?_, ?_⟩))
            · show R (bs _).data.toList; rw [bs_data]; exact h5.1
            · show findL _ (bs _).data.toList = (bs _).data.toList.length; rw [bs_data]; exact no_rem h5.2
/-! ### Behind a raw element's beginning -/
def hitB (w l : List UInt8) : Bool := M1.fold (l.take w.length) == w && stopH (l.drop w.length)
theorem ends_cons (w : List UInt8) (c : UInt8) (r : List UInt8) : endsL w (c :: r) = if hitB w (c :: r) = true then some 0 else (endsL w r).map (· + 1) := ends_step w c r
theorem ends_some (w : List UInt8) : ∀ (l : List UInt8) (k : Nat), endsL w l = some k → k < l.length ∧ hitB w (l.drop k) = true ∧ ∀ i, i < k → hitB w (l.drop i) = false := by
  intro l
  induction l with
  | nil => intro k h; cases h
  | cons c r ih =>
    intro k h
    rw [ends_cons] at h
    by_cases hh : hitB w (c :: r) = true
    · rw [if_pos hh] at h
      have h : 0 = k := by simpa using h
      subst h
      exact ⟨by simp, hh, fun i hi => by omega⟩
    · rw [if_neg hh] at h
      cases hr : endsL w r with
      | none => rw [hr] at h; cases h
      | some j =>
        rw [hr] at h
        have h : j + 1 = k := by simpa using h
        subst h
        obtain ⟨a, b, c'⟩ := ih j hr
        refine ⟨by simp; exact a, b, fun i hi => ?_⟩
        cases i with
        | zero => exact Bool.eq_false_iff.2 hh
        | succ i => exact c' i (by omega)
theorem ends_none (w : List UInt8) : ∀ (l : List UInt8), endsL w l = none → ∀ i, i < l.length → hitB w (l.drop i) = false := by
  intro l
  induction l with
  | nil => intro _ i hi; simp at hi
  | cons c r ih =>
    intro h i hi
    rw [ends_cons] at h
    by_cases hh : hitB w (c :: r) = true
    · rw [if_pos hh] at h; cases h
    · rw [if_neg hh] at h
      cases i with
      | zero => exact Bool.eq_false_iff.2 hh
      | succ i => exact ih (by simpa using h) i (by simpa using hi)
theorem ends_first (w : List UInt8) : ∀ (l : List UInt8) (k : Nat), k < l.length → hitB w (l.drop k) = true → (∀ i, i < k → hitB w (l.drop i) = false) → endsL w l = some k := by
  intro l
  induction l with
  | nil => intro k hk; simp at hk
  | cons c r ih =>
    intro k hk h1 h2
    rw [ends_cons]
    cases k with
    | zero => rw [List.drop_zero] at h1; rw [if_pos h1]
    | succ k =>
      have := h2 0 (by omega)
      rw [List.drop_zero] at this
      rw [this, if_neg Bool.false_ne_true, ih k (by simpa using hk) h1 (fun i hi => h2 (i + 1) (by omega))]
      rfl
theorem hit_pre (w u a b : List UInt8) (h : w.length < u.length) : hitB w (u ++ a) = hitB w (u ++ b) := by
  unfold hitB
  rw [List.take_append_of_le_length (by omega), List.take_append_of_le_length (by omega), List.drop_append_of_le_length (by omega), List.drop_append_of_le_length (by omega)]
  cases hq : u.drop w.length with
  | nil =>
    have := congrArg List.length hq
    rw [List.length_drop] at this
    simp only [List.length_nil] at this
    omega
  | cons d t => rfl
/-- A raw element's text does not end within itself. -/
theorem ends_own {nm t : List UInt8} (hf : M1.fold ([60, 47] ++ nm) = [60, 47] ++ nm) (hnm : ∀ c ∈ nm, c ≠ 60) (z : List UInt8) (h : ∀ i, i < t.length → hitB ([60, 47] ++ nm) ((t ++ z).drop i) = false) : M6.endsHere nm t = true := by
  unfold M6.endsHere
  rw [beq_iff_eq]
  refine ends_first _ _ _ (by simp) ?_ (fun i hi => ?_)
  · rw [List.drop_left]
    unfold hitB
    rw [List.take_left, List.drop_left, hf]
    simp [stopH]
  · rw [List.drop_append_of_le_length (by omega)]
    have h1 := h i hi
    rw [List.drop_append_of_le_length (by omega)] at h1
    have hl : 0 < (t.drop i).length := by rw [List.length_drop]; omega
    generalize t.drop i = u at *
    generalize hw : [60, 47] ++ nm = w at *
    rcases Nat.lt_trichotomy w.length u.length with h2 | h2 | h2
    · rw [hit_pre w u _ z h2]; exact h1
    · unfold hitB
      rw [h2, List.drop_left, ← hw]
      have : stopH ([60, 47] ++ nm ++ [62]) = false := rfl
      rw [this, Bool.and_false]
    · unfold hitB
      have : (M1.fold ((u ++ (w ++ [62])).take w.length) == w) = false := by
        rw [beq_eq_false_iff_ne]
        intro e
        have e2 := congrArg (fun l => l[u.length]?) e
        have hq : ((u ++ (w ++ [62])).take w.length)[u.length]? = some 60 := by
          rw [List.getElem?_take, if_pos h2, List.getElem?_append_right (Nat.le_refl _), Nat.sub_self, ← hw]
          rfl
        simp only [M1.fold, List.getElem?_map, hq] at e2
        have e3 : w[u.length]? = some 60 := e2.symm
        rw [← hw] at e3
        cases hu : u.length with
        | zero => omega
        | succ m =>
          cases m with
          | zero => rw [hu] at e3; simp at e3
          | succ m =>
            rw [hu] at e3
            have : nm[m]? = some 60 := by simpa using e3
            exact hnm 60 (List.mem_of_getElem? this) rfl
      rw [this, Bool.false_and]
theorem small_name {c : UInt8} (h : nameB (M1.small c) = true) : nameB c = true := by
  rcases small_cases c with ⟨h1, h2, -⟩ | ⟨-, h2⟩
  · unfold nameB letterB; simp [h1, h2]
  · rwa [h2] at h
theorem small_letter {c : UInt8} (h : letterB (M1.small c) = true) : letterB c = true := by
  rcases small_cases c with ⟨h1, h2, -⟩ | ⟨-, h2⟩
  · unfold letterB; simp [h1, h2]
  · rwa [h2] at h
theorem small_47 {c : UInt8} (h : M1.small c = 47) : c = 47 := by
  rcases small_cases c with ⟨h1, h2, h3⟩ | ⟨-, h2⟩
  · rw [h] at h3
    have : (47 : UInt8).toNat = 47 := rfl
    omega
  · rw [← h2]; exact h
theorem stop_name {d : UInt8} (h : (blankB d || d == 47 || d == 62) = true) : nameB d = false := by
  cases hn : nameB d
  · rfl
  · exfalso
    unfold blankB at h
    simp only [Bool.or_eq_true, beq_iff_eq] at h
    rcases h with (((((rfl | rfl) | rfl) | rfl) | rfl)) | rfl <;> exact absurd hn (by decide)
/-- A raw element's ending tag. -/
theorem raw_next {nm : List UInt8} {x : List UInt8} (hn : M3.namedB nm = true) (h : hitB ([60, 47] ++ nm) x = true) : toksR [] x = [] ∨ ∃ r, toksR [] x = ⟨2, bs nm, [], ⟨#[]⟩⟩ :: r := by
  obtain ⟨⟨c0, r0, hc0, hl0⟩, nf2, nf3⟩ := name_facts hn
  unfold hitB at h
  rw [Bool.and_eq_true, beq_iff_eq] at h
  obtain ⟨h1, h2⟩ := h
  have hx := List.take_append_drop ([60, 47] ++ nm).length x
  generalize x.take ([60, 47] ++ nm).length = p at *
  cases hq : x.drop ([60, 47] ++ nm).length with
  | nil => rw [hq] at h2; cases h2
  | cons d y =>
    rw [hq] at h2 hx
    have hd : nameB d = false := stop_name h2
    match p, h1 with
    | [], h1 => simp [M1.fold] at h1
    | [a], h1 => simp [M1.fold] at h1
    | a :: b :: u, h1 =>
      have h1 : M1.small a :: M1.small b :: u.map M1.small = 60 :: 47 :: nm := h1
      injection h1 with e1 h1
      injection h1 with e2 e3
      have e1 := small_lt60 e1
      have e2 := small_47 e2
      subst e1 e2
      have hu : ∀ c ∈ u, nameB c = true := fun c hc => small_name (nf3 _ (by rw [← e3]; exact List.mem_map_of_mem hc))
      subst hx
      cases u with
      | nil => rw [hc0] at e3; cases e3
      | cons u0 u' =>
        have hlu : letterB u0 = true := small_letter (by rw [hc0] at e3; injection e3 with e4 e5; rw [e4]; exact hl0)
        have hs : startsB ((60 :: 47 :: u0 :: u') ++ d :: y) = true := rfl
        have h62 : u0 ≠ 62 := by rintro rfl; exact absurd hlu (by decide)
        obtain ⟨t1, t2⟩ := tw_all nameB (u0 :: u') d y hu hd
        have ht : tagR ((60 :: 47 :: u0 :: u') ++ d :: y) = if findL [62] ((u0 :: u') ++ d :: y) < ((u0 :: u') ++ d :: y).length then (⟨2, bs nm, [], ⟨#[]⟩⟩, ((u0 :: u') ++ d :: y).drop (findL [62] ((u0 :: u') ++ d :: y) + 1)) else (zero, []) := by
          unfold tagR
          rw [if_pos hs]
          show (if letterB 47 then _ else _ : Tok × List UInt8) = _
          rw [show letterB 47 = false from by decide, if_neg Bool.false_ne_true]
          have p4 : [60, 33, 45, 45].isPrefixOf ((60 :: 47 :: u0 :: u') ++ d :: y) = false := rfl
          have p3 : [60, 47, 62].isPrefixOf ((60 :: 47 :: u0 :: u') ++ d :: y) = false := by
            show (60 == 60 && (47 == 47 && (62 == u0 && _))) = false
            rw [beq_eq_false_iff_ne.2 (fun e : (62 : UInt8) = u0 => h62 e.symm)]
            rfl
          rw [p4, p3, if_neg Bool.false_ne_true, if_neg Bool.false_ne_true, if_pos ⟨rfl, congrArg some hlu⟩]
          have e6 : bs (M1.fold ((u0 :: u' ++ d :: y).takeWhile nameB)) = bs nm := by rw [t1]; unfold M1.fold; rw [e3]
          show (if findL [62] (u0 :: u' ++ d :: y) < (u0 :: u' ++ d :: y).length then ((⟨2, bs (M1.fold ((u0 :: u' ++ d :: y).takeWhile nameB)), [], ⟨#[]⟩⟩ : Tok), _) else _) = _
          rw [e6]
          rfl
        by_cases hf : findL [62] ((u0 :: u') ++ d :: y) < ((u0 :: u') ++ d :: y).length
        · rw [if_pos hf] at ht
          right
          rw [round_tag _ hs (by rw [ht]; intro h; exact absurd h.1 (by show ¬ (2 : Int) = 1; decide)), ht]
          exact ⟨_, rfl⟩
        · rw [if_neg hf] at ht
          left
          rw [round_tag _ hs (by rw [ht]; intro h; exact absurd h.1 (by show ¬ (0 : Int) = 1; decide)), ht]
          rfl
/-- What may stand behind a raw element's beginning. -/
def RawTail (nm : ByteArray) (r : List Tok) : Prop :=
  (r = [] ∨ ∃ r', r = ⟨2, nm, [], ⟨#[]⟩⟩ :: r') ∨ ∃ c r', r = ⟨3, ⟨#[]⟩, [], c⟩ :: r' ∧ M6.endsHere nm.data.toList c.data.toList = true ∧ (r' = [] ∨ ∃ r'', r' = ⟨2, nm, [], ⟨#[]⟩⟩ :: r'')
def OkL : List Tok → Prop
  | [] => True
  | t :: r => TokOk t ∧ (t.kind = 1 → M3.rawB t.name.data.toList = true → RawTail t.name r) ∧ OkL r
theorem toks_ok : ∀ (n : Nat) (l : List UInt8), l.length ≤ n → R l → OkL (toksR [] l) := by
  intro n
  induction n with
  | zero =>
    intro l hn _
    obtain rfl : l = [] := List.eq_nil_of_length_eq_zero (by omega)
    rw [toksR_nil]; trivial
  | succ n ih =>
    intro l hn hR
    by_cases hl : l = []
    · subst hl; rw [toksR_nil]; trivial
    by_cases hs : startsB l = true
    · obtain ⟨g1, g2⟩ := tag_shape l.length l (Nat.le_refl _) hs hR
      have g3 := tag_ok l hs hR
      have hlt := tag_lt l hs
      by_cases hr : (tagR l).1.kind = 1 ∧ M3.rawB (tagR l).1.name.data.toList = true
      · rw [round_raw l hs hr]
        have hk : (tagR l).1.kind ≠ 0 := by rw [hr.1]; decide
        have g3 := g3 hk
        rw [keep_ne hk]
        generalize (tagR l).1 = T at *
        generalize (tagR l).2 = x at *
        have hnm : M3.namedB T.name.data.toList = true := by
          rcases g3 with h | h | h | h
          · exact h.2.1
          · rw [hr.1] at h; exact absurd h (by decide)
          · rw [hr.1] at h; exact absurd h.1 (by decide)
          · rw [hr.1] at h; exact absurd h.1 (by decide)
        have hle := endN_le T.name.data.toList x
        have hnext : toksR [] (x.drop (endN T.name.data.toList x)) = [] ∨ ∃ r, toksR [] (x.drop (endN T.name.data.toList x)) = ⟨2, T.name, [], ⟨#[]⟩⟩ :: r := by
          unfold endN
          cases he : endsL ([60, 47] ++ T.name.data.toList) x with
          | none => left; show toksR [] (x.drop x.length) = []; rw [List.drop_length, toksR_nil]; rfl
          | some k =>
            have := raw_next hnm (ends_some _ _ _ he).2.1
            rw [bs_of] at this
            exact this
        have hok : OkL (toksR [] (x.drop (endN T.name.data.toList x))) := ih _ (by rw [List.length_drop]; omega) g1.ends
        have hno : ∀ i, i < endN T.name.data.toList x → hitB ([60, 47] ++ T.name.data.toList) (x.drop i) = false := by
          intro i hi
          unfold endN at hi
          cases he : endsL ([60, 47] ++ T.name.data.toList) x with
          | none => rw [he] at hi; exact ends_none _ _ he i hi
          | some k => rw [he] at hi; exact (ends_some _ _ _ he).2.2 i hi
        have hRt : R (x.take (endN T.name.data.toList x)) := by
          unfold endN
          cases he : endsL ([60, 47] ++ T.name.data.toList) x with
          | none => show R (x.take x.length); rw [List.take_length]; exact g1
          | some k =>
            show R (x.take k)
            obtain ⟨q, hq⟩ := ends_at T.name.data.toList x k he
            have e := List.take_append_drop k x
            rw [hq] at e
            rw [← e] at g1
            exact g1.head (by decide)
        generalize endN T.name.data.toList x = k at *
        unfold contC
        by_cases hz : k = 0
        · rw [if_pos hz]
          refine ⟨g3, fun _ _ => .inl ?_, ?_⟩
          · exact hnext
          · exact hok
        · rw [if_neg hz]
          have hxl : (x.take k).length = k := by rw [List.length_take]; omega
          refine ⟨g3, fun _ _ => .inr ⟨bs (x.take k), toksR [] (x.drop k), rfl, ?_, hnext⟩, ?_, ?_, hok⟩
          · rw [bs_data]
            obtain ⟨⟨c0, r0, hc0, hl0⟩, nf2, nf3⟩ := name_facts hnm
            have hfold : M1.fold ([60, 47] ++ T.name.data.toList) = [60, 47] ++ T.name.data.toList := by
              have := fold_own _ nf2
              unfold M1.fold at this ⊢
              rw [List.map_append, this]
              rfl
            refine ends_own hfold (fun c hc e => by have := nf3 c hc; subst e; exact absurd this (by decide)) (x.drop k) (fun i hi => ?_)
            rw [List.take_append_drop]
            exact hno i (by omega)
          · refine .inr (.inr (.inl ⟨rfl, ?_, ?_⟩))
            · show R (bs _).data.toList; rw [bs_data]; exact hRt
            · show (bs _).data.toList ≠ []
              rw [bs_data]
              intro e
              rw [e] at hxl
              exact hz hxl.symm
          · intro h; exact absurd h (by show ¬ (3 : Int) = 1; decide)
      · rw [round_tag l hs hr]
        have hok := ih (tagR l).2 (by omega) g1
        by_cases hk : (tagR l).1.kind ≠ 0
        · rw [keep_ne hk]
          exact ⟨g3 hk, fun h1 h2 => absurd ⟨h1, h2⟩ hr, hok⟩
        · rw [keepT, if_neg hk]
          exact hok
    · have hs : startsB l = false := by simpa using hs
      have hp := plain_pos l hl hs
      have hple := plainN_le l
      rw [toks_step l hl hs]
      refine ⟨.inr (.inr (.inl ⟨rfl, ?_, ?_⟩)), fun h => absurd h (by show ¬ (3 : Int) = 1; decide), ih _ (by rw [List.length_drop]; omega) hR.plain⟩
      · show R (bs _).data.toList
        rw [bs_data]
        refine M2.isB_decode _ ?_
        cases hd : l.drop (plainN l) with
        | nil =>
          have := congrArg List.length hd
          rw [List.length_drop, List.length_nil] at this
          rw [List.take_of_length_le (by omega)]
          exact hR
        | cons c r =>
          obtain ⟨q, hq⟩ := starts_head _ (plain_starts l (by rw [hd]; exact List.cons_ne_nil _ _))
          have e := List.take_append_drop (plainN l) l
          rw [hq] at e
          rw [← e] at hR
          exact R.head hR (by decide)
      · show (bs _).data.toList ≠ []
        rw [bs_data]
        refine decode_ne _ (fun e => ?_)
        have := congrArg List.length e
        rw [List.length_take, List.length_nil] at this
        omega
end M5
end Go.Proofs.YteefodibpjgicaaGreat

/- Layer 8: what a right text is parsed as is stable. No program in it. -/
namespace Go.Proofs.YteefodibpjgicaaGreat
namespace M7
open M3 (isText withText cat push mayE oneE okP apart)
/-- All that are open are elements. -/
def elD : Nat → List Nd → Prop
  | 0, _ => True
  | d + 1, L => match L.getLast? with | some x => x.kind = 1 ∧ elD d x.kids | none => False
theorem elD_snoc (d : Nat) (A : List Nd) (x : Nd) : elD (d + 1) (A ++ [x]) = (x.kind = 1 ∧ elD d x.kids) := by rw [elD]; simp
theorem elD_ok {d : Nat} : ∀ {L : List Nd}, elD d L → okD d L := by
  induction d with
  | zero => intro L _; trivial
  | succ d ih =>
    intro L h
    rcases List.eq_nil_or_concat L with rfl | ⟨A, x, rfl⟩
    · exact h.elim
    · rw [List.concat_eq_append, elD_snoc] at h
      rw [List.concat_eq_append, okD_snoc]
      exact ih h.2
theorem elD_pre {n d : Nat} : ∀ {L : List Nd}, elD d L → n ≤ d → elD n L := by
  induction n generalizing d with
  | zero => intro L _ _; trivial
  | succ n ih =>
    intro L h hn
    obtain ⟨d, rfl⟩ : ∃ e, d = e + 1 := ⟨d - 1, by omega⟩
    rcases List.eq_nil_or_concat L with rfl | ⟨A, x, rfl⟩
    · exact h.elim
    · rw [List.concat_eq_append, elD_snoc] at *
      exact ⟨h.1, ih h.2 (by omega)⟩
theorem elD_put {d : Nat} (n : Nd) : ∀ {L : List Nd}, elD d L → elD d (putN d n L) := by
  induction d with
  | zero => intro L _; trivial
  | succ d ih =>
    intro L h
    rcases List.eq_nil_or_concat L with rfl | ⟨A, x, rfl⟩
    · exact h.elim
    · rw [List.concat_eq_append] at *
      rw [elD_snoc] at h
      rw [putN_snoc, elD_snoc]
      exact ⟨h.1, ih h.2⟩
theorem elD_open {d : Nat} {n : Nd} (hn : n.kind = 1) : ∀ {L : List Nd}, elD d L → elD (d + 1) (putN d n L) := by
  induction d with
  | zero =>
    intro L _
    show elD 1 (push L n)
    rw [push_node n (by simp [isText, hn]), elD_snoc]
    exact ⟨hn, trivial⟩
  | succ d ih =>
    intro L h
    rcases List.eq_nil_or_concat L with rfl | ⟨A, x, rfl⟩
    · exact h.elim
    · rw [List.concat_eq_append] at *
      rw [elD_snoc] at h
      rw [putN_snoc, elD_snoc]
      exact ⟨h.1, ih h.2⟩

/-- Kids of a parent, as they may stand there. -/
def GK (p : ByteArray) (L : List Nd) : Prop := mayE false L = 0 ∧ M6.allB L = true ∧ L.all (M6.fitsB p) = true
theorem may_app (A : List Nd) : ∀ (p : Bool) (B : List Nd), mayE p (A ++ B) = 0 ↔ mayE p A = 0 ∧ mayE (lastT p A) B = 0 := by
  induction A with
  | nil => intro p B; rw [List.nil_append, M3.mayE_nil]; simp [lastT]
  | cons x r ih =>
    intro p B
    rw [List.cons_append, lastT_cons]
    constructor
    · intro h
      obtain ⟨h1, h2, h3⟩ := may_cons h
      obtain ⟨h4, h5⟩ := (ih _ _).1 h3
      refine ⟨?_, h5⟩
      rw [M3.mayE_cons, h1, h2, h4]; simp
    · rintro ⟨h, h5⟩
      obtain ⟨h1, h2, h3⟩ := may_cons h
      have h4 := (ih _ _).2 ⟨h3, h5⟩
      rw [M3.mayE_cons, h1, h2, h4]; simp
theorem may_one {p : Bool} {x : Nd} : mayE p [x] = 0 ↔ oneE x p = 0 ∧ mayE false x.kids = 0 := by
  constructor
  · intro h
    obtain ⟨h1, h2, -⟩ := may_cons h
    exact ⟨h1, h2⟩
  · rintro ⟨h1, h2⟩
    rw [M3.mayE_cons, h1, h2, M3.mayE_nil]; simp
theorem allB_app (A B : List Nd) : M6.allB (A ++ B) = true ↔ M6.allB A = true ∧ M6.allB B = true := by
  rw [M6.allB_iff, M6.allB_iff, M6.allB_iff]
  constructor
  · intro h
    exact ⟨fun x hx => h x (by simp [hx]), fun x hx => h x (by simp [hx])⟩
  · rintro ⟨h1, h2⟩ x hx
    rcases List.mem_append.1 hx with hx | hx
    · exact h1 x hx
    · exact h2 x hx
theorem GK_snoc {p : ByteArray} {A : List Nd} {x : Nd} : GK p (A ++ [x]) ↔ GK p A ∧ oneE x (lastT false A) = 0 ∧ M6.remB x = false ∧ M6.fitsB p x = true ∧ GK x.name x.kids := by
  unfold GK
  rw [may_app, may_one, allB_app, List.all_append, Bool.and_eq_true]
  have h1 : M6.allB [x] = true ↔ M6.remB x = false ∧ x.kids.all (M6.fitsB x.name) = true ∧ M6.allB x.kids = true := by
    rw [M6.allB_iff]
    simp [M6.oneS]
  rw [h1]
  simp only [List.all_cons, List.all_nil, Bool.and_true]
  constructor
  · rintro ⟨⟨a, b, c⟩, ⟨d, e, f, g⟩, h, i⟩; exact ⟨⟨a, d, h⟩, b, e, i, c, g, f⟩
  · rintro ⟨⟨a, d, h⟩, b, e, i, c, g, f⟩; exact ⟨⟨a, b, c⟩, ⟨d, e, f, g⟩, h, i⟩
theorem GK_nil (p : ByteArray) : GK p [] := ⟨M3.mayE_nil _, M6.allB_nil, rfl⟩
theorem one_wk {x : Nd} (ks : List Nd) (q : Bool) (h : x.kind = 1) : oneE (wk x ks) q = oneE x q := by
  unfold oneE
  rw [if_pos h, if_pos (show (wk x ks).kind = 1 from h)]
  rfl
theorem put_GK {d : Nat} (n : Nd) : ∀ {L : List Nd} {p : ByteArray}, elD d L → GK p L → GK (lastN p (openN d L)) (push (levelN d L) n) → GK p (putN d n L) := by
  induction d with
  | zero => intro L p _ _ h; exact h
  | succ d ih =>
    intro L p he hg hp
    rcases List.eq_nil_or_concat L with rfl | ⟨A, x, rfl⟩
    · exact he.elim
    · rw [List.concat_eq_append] at *
      rw [elD_snoc] at he
      rw [openN_snoc, lastN_cons, levelN_snoc] at hp
      rw [putN_snoc]
      obtain ⟨a, b, c, e, f⟩ := GK_snoc.1 hg
      refine GK_snoc.2 ⟨a, ?_, c, e, ih he.2 f hp⟩
      rw [one_wk _ _ he.1]
      exact b
/-- One node more. -/
theorem push_GK {q : ByteArray} {K : List Nd} {n : Nd} (h : GK q K) (hk : n.kids = []) (hr : M6.remB n = false)
    (hn : (n.kind ≠ 2 ∧ oneE n false = 0 ∧ M6.fitsB q n = true) ∨ (n.kind = 2 ∧ n = .mk 2 ⟨#[]⟩ [] n.text [] ∧ M1.isB n.text.data.toList = true ∧ M3.nilB n.text = false ∧ M3.voidB q.data.toList = false ∧ (M3.rawB q.data.toList = true → K = [] ∧ M6.endsHere q.data.toList n.text.data.toList = true))) : GK q (push K n) := by
  rcases hn with ⟨h2, h1, hf⟩ | ⟨h2, hx, hb, hne, hv, hraw⟩
  · rw [push_node n (by simpa [isText] using h2)]
    refine GK_snoc.2 ⟨h, ?_, hr, hf, by rw [hk]; exact GK_nil _⟩
    rw [← h1]
    unfold oneE
    rw [if_neg h2, if_neg h2]
  · have hbare : M3.bareB n = false := by unfold M3.bareB; rw [hne, Bool.and_false]
    have hfit : ∀ m : Nd, m.kind = 2 → (M3.rawB q.data.toList = true → m = n) → M6.fitsB q m = true := fun m hm hmn => by
      unfold M6.fitsB
      rw [hv, if_neg Bool.false_ne_true]
      split
      · rename_i hq
        rw [hmn hq, (hraw hq).2]
        simp [isText, h2]
      · simp [hm]
    have hone : ∀ (tx : ByteArray), M1.isB tx.data.toList = true → M3.nilB tx = false → oneE (.mk 2 ⟨#[]⟩ [] tx []) false = 0 := fun tx h1 h3 => by
      unfold oneE
      rw [if_neg (show ¬ (Nd.mk 2 ⟨#[]⟩ [] tx []).kind = 1 by show ¬ (2 : Int) = 1; decide), if_pos (show (Nd.mk 2 ⟨#[]⟩ [] tx []).kind = 2 from rfl)]
      have : M3.plainB (.mk 2 ⟨#[]⟩ [] tx []) = true := by unfold M3.plainB; rw [show (Nd.mk 2 ⟨#[]⟩ [] tx []).name = ⟨#[]⟩ from rfl, M3.nilB_empty]; rfl
      rw [this, if_pos rfl]
      show (if (M1.isB tx.data.toList && !(M3.nilB tx || false)) = true then (0 : Int) else 2) = 0
      rw [h1, h3]; rfl
    rcases List.eq_nil_or_concat K with rfl | ⟨A, y, rfl⟩
    · rw [M3.push_none hbare]
      have : ([n] : List Nd) = [] ++ [n] := rfl
      rw [this]
      refine GK_snoc.2 ⟨GK_nil _, ?_, hr, hfit n h2 (fun _ => rfl), by rw [hk]; exact GK_nil _⟩
      rw [hx]
      exact hone _ hb hne
    · rw [List.concat_eq_append] at *
      have hnr : M3.rawB q.data.toList = false := by
        cases hq : M3.rawB q.data.toList
        · rfl
        · have := (hraw hq).1; simp at this
      obtain ⟨a, b, c, e, f⟩ := GK_snoc.1 h
      rw [M3.push_snoc hbare]
      split
      · rename_i ht
        simp only [Bool.and_eq_true] at ht
        have hy2 : y.kind = 2 := by simpa [isText] using ht.2
        rcases one_kinds b with h | h | h
        · omega
        · obtain ⟨-, hy, yb, yn, yp⟩ := h
          have hcb : M1.isB (cat y.text n.text).data.toList = true := by
            have := M3.okP_cat y n (by unfold okP; rw [ht.2, if_pos rfl, hy]; exact ⟨by unfold M3.plainB; rw [show (Nd.mk 2 ⟨#[]⟩ [] y.text []).name = ⟨#[]⟩ from rfl, M3.nilB_empty]; rfl, yb⟩) (by unfold okP; rw [ht.1, if_pos rfl, hx]; exact ⟨by unfold M3.plainB; rw [show (Nd.mk 2 ⟨#[]⟩ [] n.text []).name = ⟨#[]⟩ from rfl, M3.nilB_empty]; rfl, hb⟩) ht.2 ht.1
            unfold okP at this
            have ht3 : isText (withText y (cat y.text n.text)) = true := ht.2
            rw [ht3, if_pos rfl] at this
            exact this.2
          have hcn : M3.nilB (cat y.text n.text) = false := by rw [M3.nilB_cat, hne, Bool.and_false]
          refine GK_snoc.2 ⟨a, ?_, ?_, hfit _ hy2 (fun hq => absurd hq (by rw [hnr]; decide)), ?_⟩
          · rw [yp, hy]
            exact hone _ hcb hcn
          · rw [hy]; unfold M6.remB; rfl
          · rw [hy]; exact GK_nil _
        · omega
      · rename_i ht
        have hyt : isText y = false := by
          cases hq : isText y
          · rfl
          · simp [isText, h2] at ht hq; exact absurd hq ht
        refine GK_snoc.2 ⟨h, ?_, hr, hfit n h2 (fun hq => absurd hq (by rw [hnr]; decide)), by rw [hk]; exact GK_nil _⟩
        rw [lastT_snoc, show (y.kind == 2) = false from hyt, hx]
        exact hone _ hb hne
theorem level_GK {d : Nat} : ∀ {L : List Nd} {p : ByteArray}, elD d L → GK p L → GK (lastN p (openN d L)) (levelN d L) := by
  induction d with
  | zero => intro L p _ h; exact h
  | succ d ih =>
    intro L p he hg
    rcases List.eq_nil_or_concat L with rfl | ⟨A, x, rfl⟩
    · exact he.elim
    · rw [List.concat_eq_append] at *
      rw [elD_snoc] at he
      rw [openN_snoc, lastN_cons, levelN_snoc]
      exact ih he.2 (GK_snoc.1 hg).2.2.2.2
theorem level_open {d : Nat} {e : Nd} (he : isText e = false) : ∀ {L : List Nd}, okD d L → levelN (d + 1) (putN d e L) = e.kids := by
  induction d with
  | zero =>
    intro L _
    show levelN 1 (push L e) = _
    rw [push_node e he, levelN_snoc]; rfl
  | succ d ih =>
    intro L h
    rcases List.eq_nil_or_concat L with rfl | ⟨A, x, rfl⟩
    · exact h.elim
    · rw [List.concat_eq_append] at *
      rw [okD_snoc] at h
      rw [putN_snoc, levelN_snoc]
      exact ih h
/-- Below an open element that has an open one in it nothing is raw. -/
theorem inner_raw {d n : Nat} {L : List Nd} (he : elD d L) (hg : GK ⟨#[]⟩ L) (hn : n < d) : M3.rawB (lastN ⟨#[]⟩ (openN n L)).data.toList = false := by
  have h1 := level_GK (elD_pre he (Nat.le_of_lt hn)) hg
  have hx : ∃ A x, levelN n L = A ++ [x] ∧ x.kind = 1 := by
    clear hg h1
    induction n generalizing d L with
    | zero =>
      obtain ⟨d, rfl⟩ : ∃ e, d = e + 1 := ⟨d - 1, by omega⟩
      rcases List.eq_nil_or_concat L with rfl | ⟨A, x, rfl⟩
      · exact he.elim
      · rw [List.concat_eq_append, elD_snoc] at he
        exact ⟨A, x, by simp [levelN], he.1⟩
    | succ n ih =>
      obtain ⟨d, rfl⟩ : ∃ e, d = e + 1 := ⟨d - 1, by omega⟩
      rcases List.eq_nil_or_concat L with rfl | ⟨A, x, rfl⟩
      · exact he.elim
      · rw [List.concat_eq_append, elD_snoc] at he
        obtain ⟨B, y, h1, h2⟩ := ih he.2 (by omega)
        exact ⟨B, y, by rw [List.concat_eq_append, levelN_snoc]; exact h1, h2⟩
  obtain ⟨A, x, e, hk⟩ := hx
  rw [e] at h1
  have hf := (GK_snoc.1 h1).2.2.2.1
  cases hq : M3.rawB (lastN ⟨#[]⟩ (openN n L)).data.toList
  · rfl
  · unfold M6.fitsB at hf
    rw [hq] at hf
    split at hf
    · cases hf
    · simp [isText, hk] at hf
theorem names_zero (l : List Att) : ∀ seen : List ByteArray, (∀ a ∈ l, M3.attributedB a.name.data.toList = true) → l.Pairwise (fun a b => a.name ≠ b.name) → (∀ a ∈ l, ∀ s ∈ seen, s ≠ a.name) → M3.namesE seen l = 0 := by
  induction l with
  | nil => intro seen _ _ _; rfl
  | cons a r ih =>
    intro seen h1 h2 h3
    obtain ⟨p1, p2⟩ := List.pairwise_cons.1 h2
    rw [M3.namesE, h1 a (by simp), if_pos rfl, if_neg, ih _ (fun b hb => h1 b (by simp [hb])) p2 (fun b hb s hs => ?_)]
    · rcases List.mem_append.1 hs with hs | hs
      · exact h3 b (by simp [hb]) s hs
      · rw [List.mem_singleton.1 hs]; exact p1 b hb
    · intro e
      obtain ⟨s, hs, he⟩ := List.any_eq_true.1 e
      exact h3 a (by simp) s hs (M3.eqB_iff.1 he).symm
theorem values_zero (l : List Att) (h : ∀ a ∈ l, M1.isB a.value.data.toList = true) : M3.valuesE l = 0 := by
  induction l with
  | nil => rfl
  | cons a r ih => rw [M3.valuesE, h a (by simp), if_pos rfl, ih (fun b hb => h b (by simp [hb]))]
theorem last_void {o : List ByteArray} (h : ∀ nm ∈ o, M3.voidB nm.data.toList = false) : M3.voidB (lastN ⟨#[]⟩ o).data.toList = false := by
  unfold lastN
  cases ho : o.getLast? with
  | none => rfl
  | some x => exact h x (List.mem_of_getLast? ho)

/-- A builder within a right text's tokens. -/
def Inv8 (s : St) (rest : List Tok) : Prop :=
  elD s.d s.L ∧ GK ⟨#[]⟩ s.L ∧ (∀ nm ∈ openN s.d s.L, M3.voidB nm.data.toList = false) ∧
    (M3.rawB (lastN ⟨#[]⟩ (openN s.d s.L)).data.toList = true → (levelN s.d s.L = [] ∧ M5.RawTail (lastN ⟨#[]⟩ (openN s.d s.L)) rest) ∨ (rest = [] ∨ ∃ r, rest = ⟨2, lastN ⟨#[]⟩ (openN s.d s.L), [], ⟨#[]⟩⟩ :: r))
/-- Within a raw element: its text, or its end. -/
theorem Inv8.raw {s : St} {t : Tok} {r : List Tok} (h : Inv8 s (t :: r)) (hr : M3.rawB (lastN ⟨#[]⟩ (openN s.d s.L)).data.toList = true) :
    (t.kind = 2 ∧ t.name = lastN ⟨#[]⟩ (openN s.d s.L)) ∨ (t.kind = 3 ∧ levelN s.d s.L = [] ∧ M6.endsHere (lastN ⟨#[]⟩ (openN s.d s.L)).data.toList t.text.data.toList = true ∧ (r = [] ∨ ∃ r', r = ⟨2, lastN ⟨#[]⟩ (openN s.d s.L), [], ⟨#[]⟩⟩ :: r')) := by
  rcases h.2.2.2 hr with ⟨h1, (h2 | ⟨r', h2⟩) | ⟨c, r', h2, h3, h4⟩⟩ | h2 | ⟨r', h2⟩
  · cases h2
  · injection h2 with e1 e2; subst e1; exact .inl ⟨rfl, rfl⟩
  · injection h2 with e1 e2; subst e1 e2; exact .inr ⟨rfl, h1, h3, h4⟩
  · cases h2
  · injection h2 with e1 e2; subst e1; exact .inl ⟨rfl, rfl⟩
theorem step_inv {s : St} {t : Tok} {r : List Tok} (hok : M5.OkL (t :: r)) (h : Inv8 s (t :: r)) : Inv8 (step s t) r := by
  obtain ⟨ht, hraw, -⟩ := hok
  have hR := h.raw
  obtain ⟨he, hg, hv, hq⟩ := h
  have hokd := elD_ok he
  have hol := openN_len hokd
  have nraw : t.kind ≠ 2 → t.kind ≠ 3 → M3.rawB (lastN ⟨#[]⟩ (openN s.d s.L)).data.toList = false := fun h2 h3 => by
    cases hr : M3.rawB (lastN ⟨#[]⟩ (openN s.d s.L)).data.toList
    · rfl
    · rcases hR hr with h | h
      · exact absurd h.1 h2
      · exact absurd h.1 h3
  rcases ht with ⟨hk, hnm, hat, hval⟩ | hk | ⟨hk, hb, hne⟩ | ⟨hk, hb, hrem⟩
  · have hnr := nraw (by omega) (by omega)
    unfold step
    rw [if_pos hk]
    have hn := closeAt_le (openN s.d s.L) t.name s.d
    have hst := closeAt_stop (openN s.d s.L) t.name s.d
    show Inv8 ⟨putN (closeAt (openN s.d s.L) t.name s.d) (elT t) s.L, if _ then closeAt (openN s.d s.L) t.name s.d else closeAt (openN s.d s.L) t.name s.d + 1⟩ r
    generalize closeAt (openN s.d s.L) t.name s.d = n at *
    have k1 := elD_pre he hn
    have k0 := elD_ok k1
    have kt := openN_take hokd hn
    have k3 : ∀ nm ∈ openN n s.L, M3.voidB nm.data.toList = false := fun nm hm => hv nm (by rw [kt] at hm; exact List.mem_of_mem_take hm)
    have hqv := last_void k3
    have hqr : M3.rawB (lastN ⟨#[]⟩ (openN n s.L)).data.toList = false := by
      rcases Nat.lt_or_ge n s.d with h | h
      · exact inner_raw he hg h
      · obtain rfl : n = s.d := by omega
        exact hnr
    have hqc : M6.closesB (lastN ⟨#[]⟩ (openN n s.L)).data.toList t.name.data.toList = false := by
      rw [kt, lastN_take (by rw [hol]; exact hn)]
      split
      · exact closed_none _
      · rename_i h0
        rcases hst with h | h
        · exact absurd h h0
        · exact h
    have h1 : oneE (elT t) false = 0 := by
      unfold oneE
      rw [if_pos (show (elT t).kind = 1 from rfl)]
      unfold M3.elemE
      have e1 : M3.nilB (elT t).text = true := M3.nilB_empty
      have e2 : M3.namesE [] (elT t).attrs = 0 := names_zero t.attrs [] hat.1 hat.2 (fun _ _ s hs => (nomatch hs))
      have e3 : M3.namedB (elT t).name.data.toList = true := hnm
      rw [e1, e2, e3, if_pos rfl, if_pos rfl, if_pos rfl]
      exact values_zero t.attrs hval
    have hf : M6.fitsB (lastN ⟨#[]⟩ (openN n s.L)) (elT t) = true := by
      unfold M6.fitsB
      rw [hqv, hqr, if_neg Bool.false_ne_true, if_neg Bool.false_ne_true]
      show (!(decide ((1 : Int) = 1) && M6.closesB _ t.name.data.toList)) = true
      rw [hqc]; rfl
    have hpg : GK ⟨#[]⟩ (putN n (elT t) s.L) := put_GK (elT t) k1 hg (push_GK (level_GK k1 hg) rfl rfl (.inl ⟨by show ¬ (1 : Int) = 2; decide, h1, hf⟩))
    cases hvo : M3.voidB t.name.data.toList
    · rw [if_neg Bool.false_ne_true]
      have ho := (put_open (elT t) k0 rfl).2.1
      have hln : lastN ⟨#[]⟩ (openN (n + 1) (putN n (elT t) s.L)) = t.name := by
        rw [ho]; unfold lastN; simp; rfl
      refine ⟨elD_open rfl k1, hpg, fun nm hm => ?_, fun hr => ?_⟩
      · change nm ∈ openN (n + 1) (putN n (elT t) s.L) at hm
        rw [ho] at hm
        rcases List.mem_append.1 hm with hm | hm
        · exact k3 nm hm
        · rw [List.mem_singleton.1 hm]; exact hvo
      · change M3.rawB (lastN ⟨#[]⟩ (openN (n + 1) (putN n (elT t) s.L))).data.toList = true at hr
        show (levelN (n + 1) (putN n (elT t) s.L) = [] ∧ M5.RawTail (lastN ⟨#[]⟩ (openN (n + 1) (putN n (elT t) s.L))) r) ∨ _
        rw [hln] at hr ⊢
        exact .inl ⟨level_open rfl k0, hraw hk hr⟩
    · rw [if_pos rfl]
      have ho := (put_keeps (elT t) k0).2.1
      refine ⟨elD_put _ k1, hpg, fun nm hm => ?_, fun hr => ?_⟩
      · change nm ∈ openN n (putN n (elT t) s.L) at hm
        rw [ho] at hm
        exact k3 nm hm
      · change M3.rawB (lastN ⟨#[]⟩ (openN n (putN n (elT t) s.L))).data.toList = true at hr
        rw [ho, hqr] at hr
        cases hr
  · unfold step
    rw [if_neg (by omega), if_pos hk]
    cases hE : endAt (openN s.d s.L) t.name s.d with
    | none =>
      refine ⟨he, hg, hv, fun hr => ?_⟩
      exfalso
      have hr : M3.rawB (lastN ⟨#[]⟩ (openN s.d s.L)).data.toList = true := hr
      rcases hR hr with h | h
      · cases hd : s.d with
        | zero =>
          rw [hd] at hr
          have : lastN ⟨#[]⟩ (openN 0 s.L) = ⟨#[]⟩ := rfl
          rw [this] at hr
          exact absurd hr (by decide)
        | succ d =>
          rw [hd] at hE
          rw [endAt] at hE
          have hlast : lastN ⟨#[]⟩ (openN s.d s.L) = (openN s.d s.L).getD d ⟨#[]⟩ := by
            have := lastN_take (o := openN s.d s.L) (n := d + 1) (by omega)
            rw [List.take_of_length_le (by omega), if_neg (by omega)] at this
            exact this
          rw [hd] at hlast h
          rw [← hlast, if_pos (by rw [h.2])] at hE
          cases hE
      · omega
    | some i =>
      have hi := endAt_lt _ _ _ _ hE
      refine ⟨elD_pre he (Nat.le_of_lt hi), hg, fun nm hm => ?_, fun hr => ?_⟩
      · change nm ∈ openN i s.L at hm
        rw [openN_take hokd (Nat.le_of_lt hi)] at hm
        exact hv nm (List.mem_of_mem_take hm)
      · change M3.rawB (lastN ⟨#[]⟩ (openN i s.L)).data.toList = true at hr
        rw [inner_raw he hg hi] at hr
        cases hr
  · unfold step
    rw [if_neg (by omega), if_neg (by omega), if_pos hk]
    have ho := (put_keeps (txT t) hokd).2.1
    have hnn : M3.nilB t.text = false := by
      rw [M3.nilB_data']
      cases hq : t.text.data.toList with
      | nil => exact absurd hq hne
      | cons a b => rfl
    refine ⟨elD_put _ he, put_GK (txT t) he hg (push_GK (level_GK he hg) rfl rfl (.inr ⟨rfl, rfl, hb, hnn, last_void hv, fun hr => ?_⟩)), fun nm hm => ?_, fun hr => ?_⟩
    · rcases hR hr with h | h
      · omega
      · exact ⟨h.2.1, h.2.2.1⟩
    · change nm ∈ openN s.d (putN s.d (txT t) s.L) at hm
      rw [ho] at hm
      exact hv nm hm
    · change M3.rawB (lastN ⟨#[]⟩ (openN s.d (putN s.d (txT t) s.L))).data.toList = true at hr
      show _ ∨ (r = [] ∨ ∃ r', r = ⟨2, lastN ⟨#[]⟩ (openN s.d (putN s.d (txT t) s.L)), [], ⟨#[]⟩⟩ :: r')
      rw [ho] at hr ⊢
      rcases hR hr with h | h
      · omega
      · exact .inr h.2.2.2
  · have hnr := nraw (by omega) (by omega)
    unfold step
    rw [if_neg (by omega), if_neg (by omega), if_neg (by omega), if_pos hk]
    have ho := (put_keeps (coT t) hokd).2.1
    have hrb : M6.remB (coT t) = false := by
      unfold M6.remB M6.hasB
      show (decide ((3 : Int) = 3) && decide (M5.findL [45, 45, 62] t.text.data.toList < t.text.data.toList.length)) = false
      rw [hrem, decide_eq_false (Nat.lt_irrefl _)]; rfl
    have h1 : oneE (coT t) false = 0 := by
      unfold oneE
      rw [if_neg (show ¬ (coT t).kind = 1 by show ¬ (3 : Int) = 1; decide), if_neg (show ¬ (coT t).kind = 2 by show ¬ (3 : Int) = 2; decide), if_pos (show (coT t).kind = 3 from rfl)]
      have : M3.plainB (coT t) = true := by unfold M3.plainB; rw [show (coT t).name = ⟨#[]⟩ from rfl, M3.nilB_empty]; rfl
      rw [this, if_pos rfl]
      show (if M1.isB t.text.data.toList = true then (0 : Int) else 2) = 0
      rw [if_pos (show M1.isB t.text.data.toList = true from hb)]
    have hf : M6.fitsB (lastN ⟨#[]⟩ (openN s.d s.L)) (coT t) = true := by
      unfold M6.fitsB
      rw [last_void hv, hnr, if_neg Bool.false_ne_true, if_neg Bool.false_ne_true]
      rfl
    refine ⟨elD_put _ he, put_GK (coT t) he hg (push_GK (level_GK he hg) rfl hrb (.inl ⟨by show ¬ (3 : Int) = 2; decide, h1, hf⟩)), fun nm hm => ?_, fun hr => ?_⟩
    · change nm ∈ openN s.d (putN s.d (coT t) s.L) at hm
      rw [ho] at hm
      exact hv nm hm
    · change M3.rawB (lastN ⟨#[]⟩ (openN s.d (putN s.d (coT t) s.L))).data.toList = true at hr
      rw [ho, hnr] at hr
      cases hr
theorem run_inv (l : List Tok) : ∀ s, M5.OkL l → Inv8 s l → Inv8 (l.foldl step s) [] := by
  induction l with
  | nil => intro s _ h; exact h
  | cons t r ih => intro s hok h; exact ih _ hok.2.2 (step_inv hok h)
/-- What a right text is parsed as is stable. -/
theorem parsed_stable {l : List UInt8} (h : M1.isB l = true) : M6.stableB (tree (M5.tokens l)) = true := by
  have hok := M5.toks_ok l.length l (Nat.le_refl _) h
  have hi := run_inv (M5.tokens l) ⟨[], 0⟩ hok ⟨trivial, GK_nil _, fun nm hm => (nomatch hm), fun hr => absurd hr (by decide)⟩
  obtain ⟨-, h1, -⟩ := hi
  unfold M6.stableB
  rw [Bool.and_eq_true]
  exact ⟨decide_eq_true h1.1, h1.2.1⟩
end M7
end Go.Proofs.YteefodibpjgicaaGreat

/- Layer 8: how many bytes tokens and nodes hold. No program in it. -/
namespace Go.Proofs.YteefodibpjgicaaGreat
open M3 (push withText cat isText)
namespace M7
end M7
namespace M5
end M5
end Go.Proofs.YteefodibpjgicaaGreat

/- Layer 8: nodes that hold few bytes fit everything. No program in it. -/
namespace Go.Proofs.YteefodibpjgicaaGreat
open M5 (TB qs qs_app qs_one)
end Go.Proofs.YteefodibpjgicaaGreat

/- Layer 8: nodes' text is right; what is parsed of it fits. No program in it. -/
namespace Go.Proofs.YteefodibpjgicaaGreat
namespace M2
open M1
theorem escape_right8 (v : Bool) : ∀ (rs : List Int), okT rs → ∃ rs', okT rs' ∧ escape v (text rs) = text rs'
  | [], ho => ⟨[], ho, rfl⟩
  | r :: rs, ho => by
    have hor := ho r (by simp)
    obtain ⟨rs', h1, h2⟩ := escape_right8 v rs (fun x hx => ho x (by simp [hx]))
    have key : ∃ q, okT q ∧ escape v (enc r) = text q := by
      by_cases hr : 128 ≤ r
      · have hh := enc_high r hor.1 hr
        have hsame : ∀ l : List UInt8, (∀ x ∈ l, 128 ≤ x.toNat) → escape v l = l := by
          intro l
          induction l with
          | nil => intro _; rfl
          | cons c l ih =>
            intro h
            have hc := h c (by simp)
            have n1 : ¬ c = 38 := fun e => by subst e; exact absurd hc (by decide)
            have n2 : ¬ c = 60 := fun e => by subst e; exact absurd hc (by decide)
            have n3 : ¬ c = 62 := fun e => by subst e; exact absurd hc (by decide)
            have n4 : ¬ c = 34 := fun e => by subst e; exact absurd hc (by decide)
            rw [escape_cons, ih (fun x hx => h x (by simp [hx])), esc, if_neg n1, if_neg n2, if_neg n3, if_neg (fun e => n4 e.1)]
            rfl
        refine ⟨[r], ?_, ?_⟩
        · intro x hx
          simp at hx
          subst hx
          exact hor
        · rw [hsame _ hh]
          simp [text]
      · have h0 : 0 ≤ r := by have := hor.1; unfold okRune at this; omega
        have e := enc_low r h0 (by omega)
        rw [e]
        refine low_text _ ?_
        intro x hx
        rw [escape_cons] at hx
        simp only [escape, List.flatMap_nil, List.append_nil] at hx
        unfold esc at hx
        split at hx
        · revert x; decide
        split at hx
        · revert x; decide
        split at hx
        · revert x; decide
        split at hx
        · revert x; decide
        · simp only [List.mem_singleton] at hx
          subst hx
          have t := toNat_u8 r.toNat (by omega)
          refine ⟨by omega, ?_, ?_⟩
          · intro e2
            have := congrArg UInt8.toNat e2
            rw [t] at this
            have e3 : (0 : UInt8).toNat = 0 := rfl
            exact hor.2.1 (by omega)
          · intro e2
            have := congrArg UInt8.toNat e2
            rw [t] at this
            have e3 : (13 : UInt8).toNat = 13 := rfl
            exact hor.2.2 (by omega)
    obtain ⟨q, h3, h4⟩ := key
    refine ⟨q ++ rs', ?_, ?_⟩
    · intro x hx
      rcases List.mem_append.1 hx with hx | hx
      · exact h3 x hx
      · exact h1 x hx
    · rw [text_cons, escape_append, h4, h2, text_append]
theorem isB_escape8 (v : Bool) (l : List UInt8) (h : isB l = true) : isB (escape v l) = true := by
  obtain ⟨rs, ho, rfl⟩ := (right_iff l).1 h
  obtain ⟨rs', h1, h2⟩ := escape_right8 v rs ho
  rw [h2]
  exact (right_iff _).2 ⟨rs', h1, rfl⟩
theorem ownB_len {own : List UInt8} {r : Int} (h : ownB own = some r) : 2 ≤ own.length := by
  unfold ownB at h
  split at h
  · rename_i hx
    have : (own.take 2).length = 2 := by rcases hx with e | e <;> rw [e] <;> rfl
    rw [List.length_take] at this
    omega
  split at h
  · unfold numR at h
    split at h
    · rename_i hx
      have := hx.1
      rw [List.length_drop] at this
      omega
    · cases h
  · obtain ⟨n, h1, -⟩ := Option.map_eq_some_iff.1 h
    have h2 := nm_mem h1
    have h3 : ∀ p ∈ tbl, 2 ≤ p.1.length := by decide
    exact h3 _ h2
theorem decode_len1 : ∀ (n : Nat) (l : List UInt8), l.length ≤ n → (decode l).length ≤ l.length := by
  intro n
  induction n with
  | zero => intro l hl; have : l = [] := List.eq_nil_of_length_eq_zero (by omega); subst this; rw [decode_nil]; exact Nat.le_refl _
  | succ n ih =>
    intro l hl
    cases l with
    | nil => rw [decode_nil]; exact Nat.le_refl _
    | cons c t =>
      cases h : one (c :: t) with
      | none =>
        have := ih t (by simp at hl; omega)
        rw [decode_byte h]
        simp; omega
      | some p =>
        have hb := one_bd (r := p.1) (n := p.2) h
        obtain ⟨own, rest, -, e2, e3⟩ := one_some (r := p.1) (n := p.2) h
        have h4 := ownB_len e3
        have := ih ((c :: t).drop p.2) (by rw [List.length_drop]; omega)
        have he := enc_len_le p.1
        rw [decode_ref (r := p.1) (n := p.2) h, List.length_append]
        rw [List.length_drop] at this
        omega
end M2
namespace M5
theorem chars_Q2 (p : List UInt8) : qs (charsT p) ≤ 2 * p.length := by
  unfold charsT
  cases p with
  | nil => exact Nat.le_refl _
  | cons c r =>
    have h := M2.decode_len1 (c :: r).length (c :: r) (Nat.le_refl _)
    rw [if_neg (by simp), qs_one]
    show 1 + 0 + (bs _).size ≤ _
    rw [bs_sz]; simp only [List.length_cons] at *; omega
theorem raw_Q2 (t : Tok) (l : List UInt8) : qs (rawT t l).1 + 2 * (rawT t l).2.length ≤ 2 * l.length := by
  unfold rawT
  split
  · have hle := endN_le t.name.data.toList l
    have hl : (l.take (endN t.name.data.toList l)).length = endN t.name.data.toList l := by rw [List.length_take]; omega
    have h : qs (asIs (l.take (endN t.name.data.toList l))) ≤ 2 * (l.take (endN t.name.data.toList l)).length := by
      generalize l.take (endN t.name.data.toList l) = p
      unfold asIs
      cases p with
      | nil => exact Nat.le_refl _
      | cons c r =>
        rw [if_neg (by simp), qs_one]
        show 1 + 0 + (bs _).size ≤ _
        rw [bs_sz]; simp only [List.length_cons] at *; omega
    show qs (asIs _) + 2 * (l.drop _).length ≤ _
    rw [List.length_drop]; omega
  · show qs [] + 2 * l.length ≤ _
    rw [qs_nil]; omega
theorem toks_Q2 : ∀ (n : Nat) (l p : List UInt8), l.length ≤ n → qs (toksR p l) ≤ 2 * (p.length + l.length) := by
  intro n
  induction n with
  | zero =>
    intro l p hl
    obtain rfl : l = [] := List.eq_nil_of_length_eq_zero (by omega)
    rw [toksR_nil]
    exact chars_Q2 p
  | succ n ih =>
    intro l p hl
    cases l with
    | nil => rw [toksR_nil]; exact chars_Q2 p
    | cons c r =>
      cases hs : startsB (c :: r)
      · rw [toksR_text p c r hs]
        have := ih r (p ++ [c]) (by simp at hl; omega)
        rw [List.length_append, List.length_singleton] at this
        rw [List.length_cons, show p.length + (r.length + 1) = p.length + 1 + r.length by omega]
        exact this
      · rw [toksR_tag p _ hs]
        have hlt := tag_lt _ hs
        have t2 := (tag_Q _ hs).2
        have hc := chars_Q2 p
        have r1 := raw_Q2 (tagR (c :: r)).1 (tagR (c :: r)).2
        have r2 := (raw_Q (tagR (c :: r)).1 (tagR (c :: r)).2).2.1
        generalize rawT (tagR (c :: r)).1 (tagR (c :: r)).2 = W at *
        generalize tagR (c :: r) = T at *
        generalize c :: r = L at *
        have i1 := ih W.2 [] (by omega)
        rw [List.length_nil, Nat.zero_add] at i1
        have hk : qs (if T.1.kind ≠ 0 then [T.1] else []) ≤ tokQ T.1 := by
          split
          · rw [qs_one]; exact Nat.le_refl _
          · exact Nat.zero_le _
        rw [qs_app, qs_app, qs_app]
        omega
theorem toks_fit3 (l : List UInt8) (h : l.length ≤ 200000) : FitL (tokens l) := by
  have h1 := toks_Q2 l.length l [] (Nat.le_refl _)
  have h2 := (toks_Q l.length l [] (Nat.le_refl _)).2
  rw [List.length_nil, Nat.zero_add] at h1 h2
  refine ⟨by have : qs (toksR [] l) ≤ _ := h1; unfold qs at this; show (List.map tokQ (toksR [] l)).sum ≤ _; omega, fun t ht => ?_⟩
  obtain ⟨a, b, c, d⟩ := h2 t ht
  refine ⟨⟨by omega, by omega, by omega⟩, ?_⟩
  rcases d with e | e | e | e <;> rw [e] <;> decide
theorem R.app {a b : List UInt8} (ha : R a) (hb : R b) : R (a ++ b) := by
  have h := M1.isB_join a b
  rw [(M1.isB_right_iff a).1 ha, (M1.isB_right_iff b).1 hb] at h
  exact h
theorem R.low {l : List UInt8} (h : ∀ c ∈ l, c.toNat < 128 ∧ c.toNat ≠ 0 ∧ c.toNat ≠ 13) : R l := by
  induction l with
  | nil => exact R.nil
  | cons c r ih =>
    obtain ⟨h1, h2, h3⟩ := h c (by simp)
    exact isB_one c r h1 h2 h3 (ih (fun x hx => h x (by simp [hx])))
theorem R.name {l : List UInt8} (h : M3.namedB l = true) : R l := by
  refine R.low (fun c hc => ?_)
  obtain ⟨-, -, h3⟩ := name_facts h
  have hn := h3 c hc
  have h4 := name_lo hn
  refine ⟨h4, fun e => ?_, fun e => ?_⟩
  · have : c = 0 := UInt8.toNat_inj.1 e
    subst this; exact absurd hn (by decide)
  · have : c = 13 := UInt8.toNat_inj.1 e
    subst this; exact absurd hn (by decide)
end M5
open M5 (R)
theorem att_right {a : Att} (hn : M3.attributedB a.name.data.toList = true) (hv : M1.isB a.value.data.toList = true) : R (M4.attB a) := by
  have h1 : R a.name.data.toList := by
    unfold M3.attributedB at hn
    simp only [Bool.and_eq_true] at hn
    exact hn.2.1.1
  have h2 : R (M2.escape true a.value.data.toList) := M2.isB_escape _ hv
  show R (32 :: (a.name.data.toList ++ ([61, 34] ++ (M2.escape true a.value.data.toList ++ [34]))))
  exact M5.isB_one 32 _ (by decide) (by decide) (by decide) (h1.app (M5.R.app (M5.R.low (by decide)) (h2.app (M5.R.low (by decide)))))
theorem values_right {l : List Att} (h : M3.valuesE l = 0) : ∀ a ∈ l, M1.isB a.value.data.toList = true := by
  induction l with
  | nil => intro a ha; exact (nomatch ha)
  | cons b r ih =>
    rw [M3.valuesE] at h
    split at h
    · rename_i hb
      intro a ha
      rcases List.mem_cons.1 ha with rfl | ha
      · exact hb
      · exact ih h a ha
    · exact absurd h (by decide)
theorem atts_right8 {l : List Att} (h1 : ∀ a ∈ l, M3.attributedB a.name.data.toList = true) (h2 : ∀ a ∈ l, M1.isB a.value.data.toList = true) : R (M4.attsB l) := by
  induction l with
  | nil => exact M5.R.nil
  | cons a r ih =>
    have e : M4.attsB (a :: r) = M4.attB a ++ M4.attsB r := by unfold M4.attsB; rw [List.flatMap_cons]
    rw [e]
    exact (att_right (h1 a (by simp)) (h2 a (by simp))).app (ih (fun b hb => h1 b (by simp [hb])) (fun b hb => h2 b (by simp [hb])))
/-- The text of nodes that may be is right. -/
theorem text_right (l : List Nd) : ∀ (p raw : Bool), M3.mayE p l = 0 → R (M4.textB raw l) := by
  induction l using Nd.ind with
  | h0 => intro p raw _; rw [M4.textB_nil]; exact M5.R.nil
  | h1 k n a t ks r ih1 ih2 =>
    intro p raw h
    obtain ⟨m1, m2, m3⟩ := M7.may_cons h
    rw [M4.textB_cons]
    refine M5.R.app ?_ (ih2 _ raw m3)
    rcases M7.one_kinds m1 with ⟨hk, -, hn, ha, hv⟩ | ⟨hk, -, hb, -⟩ | ⟨hk, -, hb⟩
    · rw [M4.oneB_1 hk]
      obtain ⟨a1, -, -⟩ := M5.names_atts _ _ ha
      have hnm := M5.R.name hn
      have hH : R (M4.headB n a) := by
        show R (60 :: (n.data.toList ++ (M4.attsB a ++ [62])))
        exact M5.isB_one 60 _ (by decide) (by decide) (by decide) (hnm.app ((atts_right8 a1 (values_right hv)).app (M5.R.low (by decide))))
      have hE : R (M4.endB n) := by
        unfold M4.endB
        split
        · exact M5.R.nil
        · exact M5.R.app (M5.R.low (by decide)) (hnm.app (M5.R.low (by decide)))
      have hI : R (M4.innerB (M3.voidB n.data.toList) (M3.rawB n.data.toList) ks) := by
        unfold M4.innerB
        split
        · exact M5.R.nil
        · exact ih1 false _ m2
      exact hH.app (hI.app hE)
    · rw [M4.oneB_2 hk]
      show R (M4.charsB raw t)
      unfold M4.charsB
      split
      · exact hb
      · exact M2.isB_escape8 false _ hb
    · rw [M4.oneB_3 hk]
      show R ([60, 33, 45, 45] ++ (t.data.toList ++ [45, 45, 62]))
      exact M5.R.app (M5.R.low (by decide)) (M5.R.app hb (M5.R.low (by decide)))

/-! ### Nodes made of any -/
def cst : List Nd → Nat
  | [] => 0
  | .mk _ _ a t ks :: r => 65 + 754 * a.length + 6 * t.size + cst ks + cst r
termination_by l => SizeOf.sizeOf l
def cst1 (x : Nd) : Nat := 65 + 754 * x.attrs.length + 6 * x.text.size + cst x.kids
theorem cst_nil : cst [] = 0 := by rw [cst]
theorem cst_cons (x : Nd) (r : List Nd) : cst (x :: r) = cst1 x + cst r := by cases x; rw [cst]; rfl
theorem cst_app (a b : List Nd) : cst (a ++ b) = cst a + cst b := by
  induction a with
  | nil => rw [List.nil_append, cst_nil, Nat.zero_add]
  | cons x r ih => rw [List.cons_append, cst_cons, cst_cons, ih]; omega
theorem cst_push (L : List Nd) (n : Nd) : cst (M3.push L n) ≤ cst L + cst1 n := by
  cases hb : M3.bareB n
  · rcases List.eq_nil_or_concat L with rfl | ⟨A, y, rfl⟩
    · rw [M3.push_none hb, cst_cons, cst_nil]; omega
    · rw [List.concat_eq_append, M3.push_snoc hb]
      split
      · rw [cst_app, cst_app, cst_cons, cst_cons, cst_nil]
        have h1 : (M3.cat y.text n.text).size = y.text.size + n.text.size := by
          show ((y.text.data.toList ++ n.text.data.toList).toArray).size = _
          rw [List.size_toArray, List.length_append]
          rfl
        have h2 : cst1 (M3.withText y (M3.cat y.text n.text)) = 65 + 754 * y.attrs.length + 6 * (M3.cat y.text n.text).size + cst y.kids := rfl
        rw [h2, h1]
        unfold cst1
        omega
      · rw [cst_app (A ++ [y]), cst_cons, cst_nil]; omega
  · rw [M3.push_bare hb]; omega
theorem cst_merge (l : List Nd) : cst (M3.merge l) ≤ cst l := by
  have key : ∀ (l out : List Nd), cst (l.foldl M3.push out) ≤ cst out + cst l := by
    intro l
    induction l with
    | nil => intro out; show cst out ≤ _; omega
    | cons x r ih =>
      intro out
      have h1 := ih (M3.push out x)
      have h2 := cst_push out x
      rw [List.foldl_cons, cst_cons]
      omega
  have := key l []
  rw [cst_nil] at this
  unfold M3.merge
  omega
def SmR : List Nd → Prop
  | [] => True
  | .mk k n a t ks :: r => M5.SmallN (.mk k n a t ks) ∧ SmR ks ∧ SmR r
termination_by l => SizeOf.sizeOf l
theorem smr_nil : SmR [] := by rw [SmR]; trivial
theorem smr_cons {x : Nd} {r : List Nd} : SmR (x :: r) ↔ M5.SmallN x ∧ SmR x.kids ∧ SmR r := by cases x; rw [SmR]; rfl
theorem smr_iff {l : List Nd} : SmR l ↔ ∀ x ∈ l, M5.SmallN x ∧ SmR x.kids := by
  induction l with
  | nil => simp [smr_nil]
  | cons x r ih => rw [smr_cons, ih]; simp; exact ⟨fun h => ⟨⟨h.1, h.2.1⟩, h.2.2⟩, fun h => ⟨h.1.1, h.1.2, h.2⟩⟩
theorem smr_merge {l : List Nd} (h : SmR l) : SmR (M3.merge l) :=
  smr_iff.2 (M3.merge_all (P := fun x => M5.SmallN x ∧ SmR x.kids) (fun x y hx _ _ _ => by
    unfold M5.SmallN at *
    rw [M3.withText_name, M3.withText_attrs, M3.withText_kids]; exact hx) l (smr_iff.1 h))
theorem text_cst (l : List Nd) : ∀ raw, SmR l → (M4.textB raw l).length ≤ cst l := by
  induction l using Nd.ind with
  | h0 => intro raw _; rw [M4.textB_nil]; exact Nat.zero_le _
  | h1 k n a t ks r ih1 ih2 =>
    intro raw hs
    obtain ⟨s1, s2, s3⟩ := smr_cons.1 hs
    rw [M4.textB_cons, List.length_append, cst_cons]
    have h2 := ih2 raw s3
    have ha : ∀ l : List Att, (∀ b ∈ l, b.name.size ≤ 30 ∧ b.value.size ≤ 120) → (M4.attsB l).length ≤ 754 * l.length := by
      intro l
      induction l with
      | nil => intro _; exact Nat.le_refl _
      | cons b r ih =>
        intro hb
        have e : M4.attsB (b :: r) = M4.attB b ++ M4.attsB r := by unfold M4.attsB; rw [List.flatMap_cons]
        have h := M2.escape_len true b.value.data.toList
        have h2 : (M4.attB b).length = 4 + b.name.size + (M2.escape true b.value.data.toList).length := by
          unfold M4.attB
          simp only [List.length_cons, List.length_append, List.length_nil]
          have : b.name.data.toList.length = b.name.size := rfl
          omega
        have h3 : b.value.data.toList.length = b.value.size := rfl
        have h4 := hb b (by simp)
        have h5 := ih (fun c hc => hb c (by simp [hc]))
        rw [e, List.length_append, List.length_cons]
        omega
    have h1 : (M4.oneB raw (.mk k n a t ks)).length ≤ cst1 (.mk k n a t ks) := by
      have e : cst1 (.mk k n a t ks) = 65 + 754 * a.length + 6 * t.size + cst ks := rfl
      rw [e]
      have s10 : n.size ≤ 30 := s1.1
      unfold M4.oneB
      by_cases hk1 : k = 1
      · rw [if_pos (show (Nd.mk k n a t ks).kind = 1 from hk1)]
        show (M4.headB n a ++ ((if M3.voidB n.data.toList = true then [] else M4.textB (M3.rawB n.data.toList) ks) ++ M4.endB n)).length ≤ _
        rw [List.length_append, List.length_append, M4.headB_len]
        have h3 := M4.endB_len n
        have h4 := ha a (fun b hb => s1.2 b hb)
        have h5 : (if M3.voidB n.data.toList = true then [] else M4.textB (M3.rawB n.data.toList) ks).length ≤ cst ks := by
          split
          · exact Nat.zero_le _
          · exact ih1 _ s2
        omega
      rw [if_neg (show ¬ (Nd.mk k n a t ks).kind = 1 from hk1)]
      by_cases hk2 : k = 2
      · rw [if_pos (show (Nd.mk k n a t ks).kind = 2 from hk2)]
        show (M4.charsB raw t).length ≤ _
        have h3 : t.data.toList.length = t.size := rfl
        unfold M4.charsB
        split
        · omega
        · have := M2.escape_len false t.data.toList
          omega
      rw [if_neg (show ¬ (Nd.mk k n a t ks).kind = 2 from hk2)]
      by_cases hk3 : k = 3
      · rw [if_pos (show (Nd.mk k n a t ks).kind = 3 from hk3)]
        show (M4.commB t).length ≤ _
        unfold M4.commB
        simp only [List.length_append, List.length_cons, List.length_nil]
        have h3 : t.data.toList.length = t.size := rfl
        omega
      · rw [if_neg (show ¬ (Nd.mk k n a t ks).kind = 3 from hk3)]
        exact Nat.zero_le _
    omega
theorem smr_goodN (l : List Nd) : Sm30 l → SmR (M3.goodN l) := by
  induction l using Nd.ind with
  | h0 => intro _; rw [M3.goodN_nil]; exact smr_nil
  | h1 k n ats t ks r ih1 ih2 =>
    intro hs
    obtain ⟨s1, s2, s3⟩ := sm_cons.1 hs
    rw [M3.goodN_cons, M3.good1_mk]
    refine smr_cons.2 ?_
    by_cases h : M3.kindN k = 1
    · rw [if_pos h]
      have h6 := M3.wordN_size n 30 s1.1 (by omega)
      refine ⟨⟨h6, ?_⟩, smr_merge (ih1 s2), ih2 s3⟩
      refine M3.goodA_all ats (fun a ha => ?_)
      have h7 := s1.2.2 a ha
      have h8 := M3.attrN_size a.name 30 h7.1 (by omega)
      have h9 := M3.rightN_size a.value
      exact ⟨h8, by show (M3.rightN a.value).size ≤ _; omega⟩
    · rw [if_neg h]
      exact ⟨⟨by show (⟨#[]⟩ : ByteArray).size ≤ _; decide, fun a ha => (nomatch (show a ∈ ([] : List Att) from ha))⟩, smr_nil, ih2 s3⟩
theorem cst_goodN (l : List Nd) : Sm30 l → cst (M3.goodN l) ≤ 785 * M3.weight l := by
  induction l using Nd.ind with
  | h0 => intro _; rw [M3.goodN_nil, cst_nil]; exact Nat.zero_le _
  | h1 k n ats t ks r ih1 ih2 =>
    intro hs
    obtain ⟨s1, s2, s3⟩ := sm_cons.1 hs
    have h2 := ih2 s3
    have h1 := Nat.le_trans (cst_merge (M3.goodN ks)) (ih1 s2)
    rw [M3.goodN_cons, M3.good1_mk, cst_cons, M3.weight_cons]
    have hw : 785 * (1 + (Nd.mk k n ats t ks).attrs.length + M3.weight (Nd.mk k n ats t ks).kids + M3.weight r) = 785 + 785 * ats.length + 785 * M3.weight ks + 785 * M3.weight r := by
      show 785 * (1 + ats.length + M3.weight ks + M3.weight r) = _
      omega
    rw [hw]
    split
    · have h3 := M3.goodA_len ats
      show 65 + 754 * (M3.goodA ats).length + 6 * 0 + cst (M3.merge (M3.goodN ks)) + _ ≤ _
      omega
    · have h6 := M3.rightN_size t
      have h7 : t.size ≤ 30 := s1.2.1
      show 65 + 754 * 0 + 6 * (M3.rightN t).size + cst [] + _ ≤ _
      rw [cst_nil]
      omega
theorem gd_text (l : List Nd) (raw : Bool) : (M4.textB raw (gdN l)).length ≤ 188400 := by
  have h1 := text_cst (gdN l) raw (smr_merge (smr_goodN _ (few_sm l)))
  have h2 := Nat.le_trans (cst_merge _) (cst_goodN (fewN l) (few_sm l))
  have h3 := fewN_weight l
  have h4 : cst (gdN l) ≤ 785 * M3.weight (fewN l) := h2
  omega
theorem gd_toks (l : List Nd) : FitL (M5.tokens (M4.textB false (gdN l))) := M5.toks_fit3 _ (by have := gd_text l false; omega)
end Go.Proofs.YteefodibpjgicaaGreat

/- Layer 8: what is kept, and nodes made stable. No program in it. -/
namespace Go.Proofs.YteefodibpjgicaaGreat
theorem sameA_eq : ∀ (a b : List Att), M3.sameA a b = true → a = b
  | [], [], _ => rfl
  | [], _ :: _, h => by simp [M3.sameA] at h
  | _ :: _, [], h => by simp [M3.sameA] at h
  | x :: r, y :: s, h => by
    rw [M3.sameA] at h
    simp only [Bool.and_eq_true] at h
    obtain ⟨⟨h1, h2⟩, h3⟩ := h
    have e1 := M3.eqB_iff.1 h1
    have e2 := M3.eqB_iff.1 h2
    have e3 := sameA_eq r s h3
    cases x; cases y
    simp_all
theorem sameN_eq (a : List Nd) : ∀ b, M3.sameN a b = true → a = b := by
  induction a using Nd.ind with
  | h0 =>
    intro b h
    cases b with
    | nil => rfl
    | cons y s => exact absurd h (by rw [M3.sameN] <;> simp)
  | h1 k n a t ks r ih1 ih2 =>
    intro b h
    cases b with
    | nil => exact absurd h (by rw [M3.sameN] <;> simp)
    | cons y s =>
      rw [M3.sameN] at h
      simp only [Bool.and_eq_true, beq_iff_eq] at h
      obtain ⟨⟨⟨⟨⟨h1, h2⟩, h3⟩, h4⟩, h5⟩, h6⟩ := h
      have e2 := M3.eqB_iff.1 h2
      have e3 := M3.eqB_iff.1 h3
      have e4 := sameA_eq _ _ h4
      have e5 := ih1 _ h5
      have e6 := ih2 _ h6
      cases y with
      | mk k' n' a' t' ks' =>
        change k = k' at h1
        change n = n' at e2
        change t = t' at e3
        change a = a' at e4
        change ks = ks' at e5
        subst h1 e2 e3 e4 e5 e6
        rfl
theorem again_stable8 {l : List Nd} (h : M6.stableB l = true) : again l = l := by
  have h1 := h
  unfold M6.stableB at h1
  rw [Bool.and_eq_true] at h1
  have hm : M3.mayE false l = 0 := by simpa using h1.1
  unfold again
  rw [if_pos hm, M5.tree_text h]
/-- Nodes that may be are kept just if they are stable. -/
theorem keeps_iff {l : List Nd} (hm : M3.mayE false l = 0) : M3.sameN (again l) l = M6.stableB l := by
  cases hs : M6.stableB l
  · cases hk : M3.sameN (again l) l
    · rfl
    · exfalso
      have e := sameN_eq _ _ hk
      have h1 := M7.parsed_stable (text_right l false false hm)
      have h2 : again l = M7.tree (M5.tokens (M4.textB false l)) := if_pos hm
      rw [← h2, e, hs] at h1
      cases h1
  · rw [again_stable8 hs, M3.sameN_self]

theorem cst_filter (q : Nd → Bool) (l : List Nd) : cst (l.filter q) ≤ cst l := by
  induction l with
  | nil => exact Nat.le_refl _
  | cons x r ih =>
    cases h : q x
    · rw [List.filter_cons_of_neg (by rw [h]; exact Bool.false_ne_true), cst_cons]; omega
    · rw [List.filter_cons_of_pos h, cst_cons, cst_cons]; omega
theorem smr_filter (q : Nd → Bool) {l : List Nd} (h : SmR l) : SmR (l.filter q) :=
  smr_iff.2 (fun x hx => smr_iff.1 h x (List.mem_filter.1 hx).1)
theorem smr_app {a b : List Nd} (ha : SmR a) (hb : SmR b) : SmR (a ++ b) :=
  smr_iff.2 (fun x hx => by
    rcases List.mem_append.1 hx with hx | hx
    · exact smr_iff.1 ha x hx
    · exact smr_iff.1 hb x hx)
theorem steadyQ_cst (l : List Nd) : ∀ q, SmR l → cst (M6.steadyQ q l) ≤ cst l ∧ SmR (M6.steadyQ q l) := by
  induction l using Nd.ind with
  | h0 => intro q _; rw [M6.steadyQ_nil]; exact ⟨Nat.le_refl _, smr_nil⟩
  | h1 k n a t ks r ih1 ih2 =>
    intro q hs
    obtain ⟨s1, s2, s3⟩ := smr_cons.1 hs
    have s2 : SmR ks := s2
    obtain ⟨r1, r2⟩ := ih2 q s3
    obtain ⟨k1, k2⟩ := ih1 (M6.fitsB n) s2
    have h1 := Nat.le_trans (cst_filter (M6.fitsB n) _) (Nat.le_trans (cst_merge _) k1)
    have h2 := smr_filter (M6.fitsB n) (smr_merge k2)
    rw [M6.steadyQ_cons, cst_app, cst_cons]
    have e : cst1 (.mk k n a t ks) = 65 + 754 * a.length + 6 * t.size + cst ks := rfl
    rw [e]
    split
    · unfold M6.oneN
      split
      · refine ⟨?_, smr_app (smr_cons.2 ⟨s1, h2, smr_nil⟩) r2⟩
        rw [cst_cons, cst_nil]
        show 65 + 754 * a.length + 6 * t.size + cst ((M3.merge (M6.steadyQ (M6.fitsB n) ks)).filter (M6.fitsB n)) + 0 + _ ≤ _
        omega
      · refine ⟨?_, smr_app (smr_cons.2 ⟨s1, s2, smr_nil⟩) r2⟩
        rw [cst_cons, cst_nil, e]
        omega
    · refine ⟨?_, smr_app smr_nil r2⟩
      rw [cst_nil]; omega
/-- Stable nodes made of any. -/
def stN (l : List Nd) : List Nd := M6.steady (gdN l)
theorem st_text (l : List Nd) (raw : Bool) : (M4.textB raw (stN l)).length ≤ 188400 := by
  obtain ⟨h1, h2⟩ := steadyQ_cst (gdN l) (fun _ => true) (smr_merge (smr_goodN _ (few_sm l)))
  have h3 := text_cst (stN l) raw (smr_merge h2)
  have h4 := Nat.le_trans (cst_merge _) (cst_goodN (fewN l) (few_sm l))
  have h5 := fewN_weight l
  have h6 : cst (gdN l) ≤ 785 * M3.weight (fewN l) := h4
  have h7 : cst (stN l) ≤ cst (gdN l) := Nat.le_trans (cst_merge _) h1
  omega
theorem st_toks (l : List Nd) : FitL (M5.tokens (M4.textB false (stN l))) := M5.toks_fit3 _ (by have := st_text l false; omega)
theorem st_fit (l : List Nd) : FitN (stN l) := fit_steady (gd_fit l) (by have := dt_gd l; omega)
theorem st_stable (l : List Nd) : M6.stableB (stN l) = true := by
  obtain ⟨t1, t2⟩ := M6.steady_stable (gdN l) (M6.ok_of_may _ false (gd_may l)).1
  show M6.stableB (M6.steady (gdN l)) = true
  rw [M6.stable_may t1, t2]
end Go.Proofs.YteefodibpjgicaaGreat

/- Contracts of the library's shelf, laid in plain words (lay-plain.mjs), this program's numbers by name. -/
namespace Go.Proofs.YteefodibpjgicaaGreat
open Go.RowKit Go.Shelf
end Go.Proofs.YteefodibpjgicaaGreat

/- Package model: whether a raw element ends in its text; which nodes fit, and last. -/
namespace Go.Proofs.YteefodibpjgicaaGreat
open Go.RowKit
theorem endV_some (o : Option Nat) (n : Nat) : (endV o == (n : Int)) = (o == some n) := by
  rw [Bool.eq_iff_iff]
  cases o with
  | none => simp [endV]
  | some k => simp [endV]; omega

/-- A raw element's text and its end behind it. -/
theorem held_data (nm tx : ByteArray) : (tx ++ ⟨#[60, 47]⟩ ++ nm ++ ⟨#[62]⟩ : ByteArray).data.toList = tx.data.toList ++ ([60, 47] ++ nm.data.toList ++ [62]) := by
  simp [ByteArray.data_append, Array.toList_append]

def BoolB (b : Bool) (w : World) (e : Ending) (w' : World) : Prop := e = .returned (.bool b) ∧ Below w.heap.size w w'

end Go.Proofs.YteefodibpjgicaaGreat
