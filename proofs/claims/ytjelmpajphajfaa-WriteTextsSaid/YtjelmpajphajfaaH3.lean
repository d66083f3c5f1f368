/- Texts joined: Wr1, Wr2, Wr3, Dom6, Dom7, Lives3, Lives4, Ref02, Ref02b, Ref02c, Ref04, Cut. -/
import Derived.StillTailTactics
import Derived.Shelf.Abstract
import Derived.Deep.QuietTactic
import Derived.BigQuiet
import Derived.IntWalk
import Derived.Deep.RegionHeld3
import Derived.Deep.AppendLies
import Derived.Test.YtjelmpajphajfaaH1
import Derived.Test.YtjelmpajphajfaaH2
/- Package write: what is handed to a function that puts: what stands ahead of an element's kids, behind them, a text. -/
namespace Go.Proofs.Ytjelmpajphajfaa
open Go.RowKit

/-- Nothing below B has changed, and of what there was no node, attribute or list. -/
structure Kw (B : Nat) (w w' : World) : Prop where
  low : Below B w w'
  kept : ∀ (k : Nat) (c : Array Value) (t : TypeId) (fr : Nat × Nat), w.heap[k]? = some (.cells c t fr) → t = 28 ∨ t = 44 ∨ t = 22 → w'.heap[k]? = some (.cells c t fr)
theorem Kw.refl (B : Nat) (w : World) : Kw B w w := ⟨Below.refl _ _, fun _ _ _ _ h _ => h⟩
theorem Kw.trans {B : Nat} {a b c : World} (h : Kw B a b) (k : Kw B b c) : Kw B a c := ⟨h.low.trans k.low, fun i cs t fr h1 h2 => k.kept i cs t fr (h.kept i cs t fr h1 h2) h2⟩
theorem Kw.of_below {B : Nat} {a b : World} (h : Below a.heap.size a b) (hB : B ≤ a.heap.size) : Kw B a b :=
  ⟨h.mono hB, fun i _ _ _ h1 _ => (h.block i (Array.getElem?_eq_some_iff.1 h1).1).trans h1⟩
theorem Kw.box {B : Nat} {a b : World} (h : Kw B a b) {g : Nat} {t : TypeId} {cs : List Value} (hb : Box a g t cs) (ht : t = 28 ∨ t = 44 ∨ t = 22) : Box b g t cs := h.kept _ _ _ _ hb ht
theorem Kw.size {B : Nat} {a b : World} (h : Kw B a b) : a.heap.size ≤ b.heap.size := h.low.size

def PutPost (B : Nat) (P : List UInt8 → World → Prop) (acc : List UInt8) (w : World) (e : Ending) (w' : World) : Prop := e = .returned (.tuple #[]) ∧ P acc w' ∧ Kw B w w'
/-- The function F, with the variable g that it captured, puts a text behind what P says. -/
structure Puts (B F g : Nat) (P : List UInt8 → World → Prop) : Prop where
  enter : ∀ (args : Array Value) (w : World), (callFunc F args).run Try.prog w = .ok (.enter F args) w
  base : ∀ acc w, P acc w → B ≤ w.heap.size
  stab : ∀ acc w w', P acc w → Below w.heap.size w w' → P acc w'
  call : ∀ acc (s : ByteArray) w, P acc w → acc.length + s.size ≤ 70368744177664 → Calls Try.prog F #[.string s, .pointer (some ⟨g, 0, none⟩)] w (PutPost B P (acc ++ s.data.toList) w)

theorem textB_len (l : List Nd) : FitN l → ∀ raw, (M4.textB raw l).length ≤ M3.weight l * 4294967296 := by
  induction l using Nd.ind with
  | h0 => intro _ raw; rw [M4.textB_nil]; simp
  | h1 k n ats t ks r ih1 ih2 =>
    intro hf raw
    obtain ⟨f1, f2, f3⟩ := fitN_cons.1 hf
    rw [M4.textB_cons, M3.weight_cons, List.length_append]
    have h2 := ih2 f3 raw
    have h1 := ih1 f2 (M3.rawB n.data.toList)
    have h3 := M4.attsB_len ats f1.2.2.1
    have h4 := M4.headB_len n ats
    have h5 := M4.endB_len n
    have h6 := M4.charsB_len raw t
    have h7 := M4.commB_len t
    have h8 : n.size ≤ 268435456 := f1.1
    have h9 : t.size ≤ 268435456 := f1.2.1
    have h10 : (M4.oneB raw (.mk k n ats t ks)).length ≤ (1 + ats.length + M3.weight ks) * 4294967296 := by
      generalize hx : Nd.mk k n ats t ks = x at *
      have e1 : x.kind = k := by rw [← hx]; rfl
      have e2 : x.name = n := by rw [← hx]; rfl
      have e3 : x.attrs = ats := by rw [← hx]; rfl
      have e4 : x.text = t := by rw [← hx]; rfl
      have e5 : x.kids = ks := by rw [← hx]; rfl
      clear hx
      subst e1 e2 e3 e4 e5
      by_cases k1 : x.kind = 1
      · rw [M4.oneB_1 k1, List.length_append, List.length_append]
        have := M4.innerB_len (M3.voidB x.name.data.toList) (M3.rawB x.name.data.toList) x.kids
        omega
      by_cases k2 : x.kind = 2
      · rw [M4.oneB_2 k2]; omega
      by_cases k3 : x.kind = 3
      · rw [M4.oneB_3 k3]; omega
      rw [M4.oneB_4 k1 k2 k3]; simp
    simp only [Nd.attrs, Nd.kids] at *
    omega

set_option maxHeartbeats 2000000 in
set_option maxRecDepth 100000 in
theorem writeEnd {B F g : Nat} {P : List UInt8 → World → Prop} (hp : Puts B F g P) (x : Nd) (va vk : Value) (acc : List UInt8) (w : World) (hva : ∃ a n c, va = .slice a n c) (hvk : ∃ a n c, vk = .slice a n c) (hP : P acc w) (hl : acc.length + (M4.endB x.name).length ≤ 70368744177664) :
    Calls Try.prog 64 #[x.val va vk, .func (.func F) #[] #[.pointer (some ⟨g, 0, none⟩)]] w (PutPost B P (acc ++ M4.endB x.name) w) := by
  obtain ⟨a1, n1, c1, rfl⟩ := hva
  obtain ⟨a2, n2, c2, rfl⟩ := hvk
  have hE := hp.enter
  have hb0 : Kw B w (w.alloc (.cells #[.int .i64 x.kind, .string x.name, .slice a1 n1 c1, .string x.text, .slice a2 n2 c2] 28)) := Kw.of_below ((Below.refl _ _).alloc (Nat.le_refl _) _) (hp.base _ _ hP)
  have hP0 : P acc (w.alloc (.cells #[.int .i64 x.kind, .string x.name, .slice a1 n1 c1, .string x.text, .slice a2 n2 c2] 28)) := hp.stab _ _ _ hP ((Below.refl _ _).alloc (Nat.le_refl _) _)
  have hbx := Box.new w 28 [.int .i64 x.kind, .string x.name, .slice a1 n1 c1, .string x.text, .slice a2 n2 c2]
  have hv : Hid (M4.endB x.name = if M3.voidB x.name.data.toList then [] else [60, 47] ++ (x.name.data.toList ++ [62])) := rfl
  cases hvd : M3.voidB x.name.data.toList
  · rw [hvd, if_neg (by simp)] at hv
    rw [hv.out] at hl ⊢
    simp only [List.length_append, List.length_cons, List.length_nil] at hl
    have hl : acc.length + (0 + 1 + 1 + (x.name.size + (0 + 1))) ≤ 70368744177664 := hl
    clear hv
    replace hb0 := Lib.hid hb0
    go_enter Try.func64, Try.ntmps64
    go_wp2_with (fail)
    refine (domVoid _ _).mono ?_
    rintro e w1 ⟨rfl, rfl⟩
    rw [hvd]
    replace hvd := Lib.hid hvd
    go_wp2_with (fail)
    refine (hp.call acc ⟨#[60, 47]⟩ _ hP0 (by show acc.length + 2 ≤ _; omega)).mono ?_
    rintro e w1 ⟨rfl, hP1, hk1⟩
    have hb1 := hk1.box hbx (.inl rfl)
    have c1 := hb1.cell (i := 1) rfl
    go_wp2_with (fail)
    refine (hp.call _ x.name _ hP1 (by simp; omega)).mono ?_
    rintro e w2 ⟨rfl, hP2, hk2⟩
    clear c1
    go_wp2_with (fail)
    refine (hp.call _ ⟨#[62]⟩ _ hP2 (by simp; show acc.length + (x.name.size + 1 + 1) + 1 ≤ _; omega)).mono ?_
    rintro e w3 ⟨rfl, hP3, hk3⟩
    have hP4 := Lib.hid hP3
    go_wp2_with (fail)
    go_end0
    exact ⟨rfl, by simpa using hP4.out, ((hb0.out.trans hk1).trans hk2).trans hk3⟩
  · rw [hvd, if_pos rfl] at hv
    rw [hv.out, List.append_nil]
    clear hv hl
    replace hb0 := Lib.hid hb0
    replace hP0 := Lib.hid hP0
    go_enter Try.func64, Try.ntmps64
    go_wp2_with (fail)
    refine (domVoid _ _).mono ?_
    rintro e w1 ⟨rfl, rfl⟩
    rw [hvd]
    go_wp2_with (fail)
    go_end0
    exact ⟨rfl, hP0.out, hb0.out⟩

set_option maxHeartbeats 2000000 in
set_option maxRecDepth 100000 in
theorem writeText {B F g : Nat} {P : List UInt8 → World → Prop} (hp : Puts B F g P) (s : ByteArray) (raw : Bool) (acc : List UInt8) (w : World) (hP : P acc w) (hs : s.size ≤ 1073741824) (hl : acc.length + (M4.charsB raw s).length ≤ 70368744177664) :
    Calls Try.prog 85 #[.string s, .bool raw, .func (.func F) #[] #[.pointer (some ⟨g, 0, none⟩)]] w (PutPost B P (acc ++ M4.charsB raw s) w) := by
  have hE := hp.enter
  cases raw
  · have hl : acc.length + (⟨(M2.escape false s.data.toList).toArray⟩ : ByteArray).size ≤ 70368744177664 := hl
    have hQ := Lib.hid (fun w1 (hb : Below w.heap.size w w1) => hp.call acc ⟨(M2.escape false s.data.toList).toArray⟩ w1 (hp.stab _ _ _ hP hb) hl)
    have hB := hp.base _ _ hP
    go_enter Try.func85, Try.ntmps85
    go_wp2_with (fail)
    refine (refsEscape _ _ _ hs).mono ?_
    rintro e w1 ⟨rfl, hb1⟩
    have hk1 := Lib.hid (Kw.of_below hb1 hB)
    go_wp2_with (fail)
    refine (hQ.out _ hb1).mono ?_
    rintro e w2 ⟨rfl, hP2, hk2⟩
    have hP3 := Lib.hid hP2
    go_wp2_with (fail)
    go_end0
    exact ⟨rfl, hP3.out, hk1.out.trans hk2⟩
  · have hQ := Lib.hid (hp.call acc s w hP hl)
    go_enter Try.func85, Try.ntmps85
    go_wp2_with (fail)
    refine hQ.out.mono ?_
    rintro e w2 ⟨rfl, hP2, hk2⟩
    have hP3 := Lib.hid hP2
    go_wp2_with (fail)
    go_end0
    exact ⟨rfl, hP3.out, hk2⟩

theorem wr_meas {n k : Nat} (h : k < n) : n - (intOf (.int .i64 ((k : Int) + 1))).toNat < n - (intOf (.int .i64 (k : Int))).toNat := by
  simp [intOf]; omega
theorem attB_len (a : Att) : (M4.attB a).length = a.name.size + (M2.escape true a.value.data.toList).length + 4 := by
  simp only [M4.attB, List.length_cons, List.length_append, List.length_nil]
  show a.name.size + _ + 1 = _
  omega
set_option maxHeartbeats 4000000 in
set_option maxRecDepth 100000 in
theorem writeBegin {B F g : Nat} {P : List UInt8 → World → Prop} (hp : Puts B F g P) (S : Nat → Prop) (x : Nd) (va vk : Value) (acc : List UInt8) (w w0 : World) (hS : ∀ b, S b → b < B) (hx : RepV S w0 x va vk) (hw : Below B w0 w) (hf : Fit1 x) (hP : P acc w) (hl : acc.length + (M4.headB x.name x.attrs).length ≤ 70368744177664) :
    Calls Try.prog 62 #[x.val va vk, .func (.func F) #[] #[.pointer (some ⟨g, 0, none⟩)]] w (PutPost B P (acc ++ M4.headB x.name x.attrs) w) := by
  obtain ⟨a1, e1, rfl⟩ := hx.at_.slice
  obtain ⟨a2, e2, rfl⟩ := hx.kids.slice
  obtain ⟨_, hlc, hcm⟩ := hx.at_.len
  have hat := Lib.hid (fun (W : World) (hW : Below B w W) => hx.at_.keep (w' := W) (fun b h => (hw.trans hW).block b (hS b h)))
  rw [M4.headB_len] at hl
  cases x with | mk k n ats t ks =>
  simp only [Nd.kind, Nd.name, Nd.text, Nd.attrs, Nd.kids, Nd.val] at *
  have hB := hp.base _ _ hP
  have hE := hp.enter
  have hb0 : Kw B w (w.alloc (.cells #[.int .i64 k, .string n, .slice a1 ats.length e1, .string t, .slice a2 ks.length e2] 28)) := Kw.of_below ((Below.refl _ _).alloc (Nat.le_refl _) _) hB
  have hP0 : P acc (w.alloc (.cells #[.int .i64 k, .string n, .slice a1 ats.length e1, .string t, .slice a2 ks.length e2] 28)) := hp.stab _ _ _ hP ((Below.refl _ _).alloc (Nat.le_refl _) _)
  have hbx := Box.new w 28 [.int .i64 k, .string n, .slice a1 ats.length e1, .string t, .slice a2 ks.length e2]
  have hfa := Lib.hid hf.2.2.1
  clear hx hw hf
  replace hb0 := Lib.hid hb0
  go_enter Try.func62, Try.ntmps62
  go_wp2_with (fail)
  refine (hp.call acc ⟨#[60]⟩ _ hP0 (by show acc.length + 1 ≤ _; omega)).mono ?_
  rintro e w1 ⟨rfl, hP1, hk1⟩
  have hb1 := hk1.box hbx (.inl rfl)
  have c1 := hb1.cell (i := 1) rfl
  clear hbx
  go_wp2_with (fail)
  refine (hp.call _ n _ hP1 (by simp; omega)).mono ?_
  rintro e w2 ⟨rfl, hP2, hk2⟩
  have hb2 := hk2.box hb1 (.inl rfl)
  have c2 := hb2.cell (i := 2) rfl
  have hkn := Lib.hid ((hb0.out.trans hk1).trans hk2)
  clear hb1 c1 hk1 hk2 hP1 hP0
  have hacc : Hid (acc ++ (⟨#[60]⟩ : ByteArray).data.toList ++ n.data.toList = acc ++ 60 :: n.data.toList ++ M4.attsB (ats.take 0)) := by show _ = _; simp [M4.attsB]
  replace hP2 : P (acc ++ 60 :: n.data.toList ++ M4.attsB (ats.take 0)) w2 := by rw [← hacc.out]; exact hP2
  clear hacc
  generalize hA0 : acc ++ 60 :: n.data.toList = A0 at *
  have hA0l : A0.length = acc.length + 1 + n.size := by rw [← hA0]; simp; show _ + (n.size + 1) = _; omega
  replace hA0 := Lib.hid hA0
  go_wp2_with (fail)
  go_loopw [5, 15] (fun _ u15 wr => ∃ i : Nat, i ≤ ats.length ∧ u15 = .int .i64 (i : Int) ∧ P (A0 ++ M4.attsB (ats.take i)) wr ∧ Kw B w wr) (fun _ u15 _ => ats.length - (intOf u15).toNat)
  case atStart => exact ⟨0, by omega, rfl, hP2, hkn.out⟩
  case round =>
    obtain ⟨i, hi, rfl, hP3, hk3⟩ := hrel
    by_cases hlt : i < ats.length
    · obtain ⟨b, off, rfl, hSb, q0, q1⟩ := (hat.out wr hk3.low).atA i hlt
      have hbl := hS b hSb
      have hz3 := hp.base _ _ hP3
      obtain ⟨hfn, hfv⟩ := hfa.out _ (List.getElem_mem hlt)
      have htk := M4.attsB_take ats i hlt
      have hpre := M4.attsB_prefix ats (i + 1)
      rw [htk, List.length_append, attB_len] at hpre
      have hab : Hid (A0 ++ M4.attsB (ats.take i) ++ [32] ++ ats[i].name.data.toList ++ [61, 34] ++ M2.escape true ats[i].value.data.toList ++ [34] = A0 ++ M4.attsB (ats.take (i + 1))) := by
        show _ = _
        rw [htk, M4.attB]; simp
      generalize hA2 : A0 ++ M4.attsB (ats.take (i + 1)) = A2' at *
      replace hA2 := Lib.hid hA2
      replace htk := Lib.hid htk
      generalize ats[i].name = nm at *
      generalize ats[i].value = vl at *
      have hlen3 : (A0 ++ M4.attsB (ats.take i)).length + (nm.size + (M2.escape true vl.data.toList).length + 4) ≤ 70368744177664 - 1 := by rw [List.length_append]; omega
      generalize A0 ++ M4.attsB (ats.take i) = A1 at *
      clear hpre htk
      have hP4 : P A1 (wr.alloc (.cells #[.string nm, .string vl] 44)) := hp.stab _ _ _ hP3 ((Below.refl _ _).alloc (Nat.le_refl _) _)
      have hk4 : Kw B w (wr.alloc (.cells #[.string nm, .string vl] 44)) := hk3.trans (Kw.of_below ((Below.refl _ _).alloc (Nat.le_refl _) _) hz3)
      have bx := Box.new wr 44 [.string nm, .string vl]
      replace hk4 := Lib.hid hk4
      clear hP3 hk3
      go_wp2_with (fail)
      refine (hp.call A1 ⟨#[32]⟩ _ hP4 (by show A1.length + 1 ≤ _; omega)).mono ?_
      rintro e w3 ⟨rfl, hP5, hk5⟩
      have bx1 := hk5.box bx (.inr (.inl rfl))
      have d0 := bx1.cell (i := 0) rfl
      clear bx q0 q1
      go_wp2_with (fail)
      refine (hp.call _ nm _ hP5 (by simp; omega)).mono ?_
      rintro e w4 ⟨rfl, hP6, hk6⟩
      have bx2 := hk6.box bx1 (.inr (.inl rfl))
      have d1 := bx2.cell (i := 1) rfl
      have hl6 : (A1 ++ (⟨#[32]⟩ : ByteArray).data.toList ++ nm.data.toList).length = A1.length + 1 + nm.size := by simp; show A1.length + (nm.size + 1) = _; omega
      have hk6 := Lib.hid ((hk4.out.trans hk5).trans hk6)
      clear bx1 d0 hP5 hP4 hk4 hk5
      go_wp2_with (fail)
      refine (hp.call _ ⟨#[61, 34]⟩ _ hP6 (by rw [hl6]; show _ + 2 ≤ _; omega)).mono ?_
      rintro e w5 ⟨rfl, hP7, hk7⟩
      have bx3 := hk7.box bx2 (.inr (.inl rfl))
      have d1 := bx3.cell (i := 1) rfl
      clear bx2 hP6
      go_wp2_with (fail)
      refine (refsEscape vl true _ (by omega)).mono ?_
      rintro e w6 ⟨rfl, hb8⟩
      have hk8 := Lib.hid ((hk6.out.trans hk7).trans (Kw.of_below hb8 (hp.base _ _ hP7)))
      have hP8 := hp.stab _ _ _ hP7 hb8
      clear hP7 bx3 d1 hk7
      go_wp2_with (fail)
      refine (hp.call _ ⟨(M2.escape true vl.data.toList).toArray⟩ _ hP8 (by rw [List.length_append, hl6]; show _ + 2 + (M2.escape true vl.data.toList).length ≤ _; omega)).mono ?_
      rintro e w7 ⟨rfl, hP9, hk9⟩
      go_wp2_with (fail)
      refine (hp.call _ ⟨#[34]⟩ _ hP9 (by rw [List.length_append, List.length_append, hl6]; show _ + 2 + (M2.escape true vl.data.toList).length + 1 ≤ _; omega)).mono ?_
      rintro e w8 ⟨rfl, hP10, hk10⟩
      have hP11 := Lib.hid (show P A2' w8 from hab.out ▸ hP10)
      clear hP10 hP9 hP8
      go_wp2_with (fail)
      go_roundw
      case rel => exact ⟨i + 1, by omega, by go_num, by rw [hA2.out]; exact hP11.out, (hk8.out.trans hk9).trans hk10⟩
      case measure => exact wr_meas hlt
    · obtain rfl : i = ats.length := by omega
      rw [List.take_length] at hP3
      have hll : (A0 ++ M4.attsB ats).length + 1 ≤ 70368744177664 := by rw [List.length_append]; omega
      have hab : Hid (A0 ++ M4.attsB ats ++ [62] = acc ++ M4.headB n ats) := by show _ = _; rw [← hA0.out, M4.headB]; simp
      replace hk3 := Lib.hid hk3
      go_wp2_with (fail)
      refine (hp.call _ ⟨#[62]⟩ _ hP3 hll).mono ?_
      rintro e w3 ⟨rfl, hP5, hk5⟩
      have hP6 := Lib.hid (hab.out ▸ hP5 : P (acc ++ M4.headB n ats) w3)
      go_wp2_with (fail)
      go_end0
      exact ⟨rfl, hP6.out, hk3.out.trans hk5⟩
end Go.Proofs.Ytjelmpajphajfaa

/- Package write: an element, nodes, texts alone. -/
namespace Go.Proofs.Ytjelmpajphajfaa
open Go.RowKit

set_option maxHeartbeats 4000000 in
set_option maxRecDepth 100000 in
theorem writeElement {B F g : Nat} {P : List UInt8 → World → Prop} (hp : Puts B F g P) (S : Nat → Prop) (x : Nd) (va vk : Value) (acc : List UInt8) (w w0 : World) (hS : ∀ b, S b → b < B) (hx : RepV S w0 x va vk) (hw : Below B w0 w) (hf : Fit1 x) (hP : P acc w) (hk1 : x.kind = 1)
    (hN : ∀ (acc : List UInt8) (raw : Bool) (W : World), Below B w0 W → P acc W → acc.length + (M4.textB raw x.kids).length ≤ 70368744177664 → Calls Try.prog 58 #[vk, .bool raw, .func (.func F) #[] #[.pointer (some ⟨g, 0, none⟩)]] W (PutPost B P (acc ++ M4.textB raw x.kids) W))
    (hl : acc.length + (M4.oneB false x).length ≤ 70368744177664) :
    Calls Try.prog 84 #[x.val va vk, .func (.func F) #[] #[.pointer (some ⟨g, 0, none⟩)]] w (PutPost B P (acc ++ M4.oneB false x) w) := by
  obtain ⟨a1, e1, hva⟩ := hx.at_.slice
  obtain ⟨a2, e2, hvk⟩ := hx.kids.slice
  subst hva hvk
  rw [M4.oneB_1 hk1] at hl ⊢
  cases x with | mk k n ats t ks =>
  have hB := hp.base _ _ hP
  have hb0 : Below w.heap.size w (w.alloc (.cells #[.int .i64 k, .string n, .slice a1 ats.length e1, .string t, .slice a2 ks.length e2] 28)) := (Below.refl _ _).alloc (Nat.le_refl _) _
  have hbx := Box.new w 28 [.int .i64 k, .string n, .slice a1 ats.length e1, .string t, .slice a2 ks.length e2]
  have hP0 := hp.stab _ _ _ hP hb0
  have hk0 := Lib.hid (Kw.of_below hb0 hB)
  rw [List.length_append, List.length_append] at hl
  have hBeg := Lib.hid (fun (W : World) (hW : Below B w W) (hP : P acc W) => writeBegin hp S (.mk k n ats t ks) (.slice a1 ats.length e1) (.slice a2 ks.length e2) acc W w0 hS hx (hw.trans hW) hf hP (by omega))
  have hEnd := Lib.hid (fun (acc : List UInt8) (W : World) (hP : P acc W) (hl : acc.length + (M4.endB n).length ≤ 70368744177664) => writeEnd hp (.mk k n ats t ks) (.slice a1 ats.length e1) (.slice a2 ks.length e2) acc W ⟨_, _, _, rfl⟩ ⟨_, _, _, rfl⟩ hP hl)
  replace hN := Lib.hid hN
  replace hw := Lib.hid hw
  clear hx hf hk1
  simp only [Nd.kind, Nd.name, Nd.text, Nd.attrs, Nd.kids, Nd.val] at *
  go_enter Try.func84, Try.ntmps84
  go_wp2_with (fail)
  refine (hBeg.out _ (hb0.mono hB) hP0).mono ?_
  rintro e w1 ⟨rfl, hP1, hk1⟩
  have hb1 := hk1.box hbx (.inl rfl)
  have d1 := hb1.cell (i := 1) rfl
  have hka := Lib.hid (hk0.out.trans hk1)
  clear hbx hP0 hb0 hBeg hk1
  go_wp2_with (fail)
  refine (domVoid _ _).mono ?_
  rintro e w1 ⟨rfl, rfl⟩
  cases hvd : M3.voidB n.data.toList
  · rw [hvd] at hl
    rw [M4.innerB_no] at hl
    have d4 := hb1.cell (i := 4) rfl
    have hkd : Below w1.heap.size w1 w1.drew := (Below.refl _ w1).drew
    have hPd := hp.stab _ _ _ hP1 hkd
    have hkd2 := Lib.hid (hka.out.trans (Kw.of_below hkd (hp.base _ _ hP1)))
    have hNN := Lib.hid (hN.out (acc ++ M4.headB n ats) (M3.rawB n.data.toList) w1.drew (hw.out.trans hkd2.out.low) hPd (by rw [List.length_append]; omega))
    have hbd := hb1.below hkd hb1.lt
    replace hbd := Lib.hid hbd
    replace hPd := Lib.hid hPd
    clear hkd
    go_wp2_with (fail)
    refine wp_region_still_tail 6 (by kernel_rfl) (by kernel_rfl) ?_
    simp only [List.take_succ_cons, List.take_zero, List.drop_succ_cons, List.drop_zero]
    repeat still_step
    still_call (domRaw _ _)
    repeat still_step
    refine wpStill_nil ?_
    change wpList _ _ _ _ _ w1.drew
    go_wp2_with (fail)
    refine hNN.out.mono ?_
    rintro e w2 ⟨rfl, hP2, hk2⟩
    have hb2 := hk2.box hbd.out (.inl rfl)
    have f0 := hb2.cell (i := 0) rfl
    have f1 := hb2.cell (i := 1) rfl
    have f2 := hb2.cell (i := 2) rfl
    have f3 := hb2.cell (i := 3) rfl
    have f4 := hb2.cell (i := 4) rfl
    clear hNN d1 d4 hb1
    go_wp2_with (fail)
    refine (hEnd.out _ _ hP2 (by simp only [List.length_append]; omega)).mono ?_
    rintro e w3 ⟨rfl, hP3, hk3⟩
    have hab : Hid (acc ++ M4.headB n ats ++ M4.textB (M3.rawB n.data.toList) ks ++ M4.endB n = acc ++ (M4.headB n ats ++ (M4.innerB false (M3.rawB n.data.toList) ks ++ M4.endB n))) := by show _ = _; rw [M4.innerB_no]; simp
    have hP4 := Lib.hid (hab.out ▸ hP3 : P (acc ++ (M4.headB n ats ++ (M4.innerB false (M3.rawB n.data.toList) ks ++ M4.endB n))) w3)
    clear hP3 hab
    go_wp2_with (fail)
    go_end0
    exact ⟨rfl, by rw [hvd]; exact hP4.out, (hkd2.out.trans hk2).trans hk3⟩
  · rw [hvd] at hl
    have f0 := hb1.cell (i := 0) rfl
    have f2 := hb1.cell (i := 2) rfl
    have f3 := hb1.cell (i := 3) rfl
    have f4 := hb1.cell (i := 4) rfl
    rw [M4.innerB_yes] at hl ⊢
    go_wp2_with (fail)
    refine (hEnd.out _ _ hP1 (by simp only [List.length_append, List.length_nil] at *; omega)).mono ?_
    rintro e w3 ⟨rfl, hP3, hk3⟩
    have hab : Hid (acc ++ M4.headB n ats ++ M4.endB n = acc ++ (M4.headB n ats ++ ([] ++ M4.endB n))) := by show _ = _; simp
    have hP4 := Lib.hid (hab.out ▸ hP3 : P (acc ++ (M4.headB n ats ++ ([] ++ M4.endB n))) w3)
    clear hP3 hab
    go_wp2_with (fail)
    go_end0
    exact ⟨rfl, by rw [hvd, M4.innerB_yes]; exact hP4.out, hka.out.trans hk3⟩

theorem fitN_mem {x : Nd} {l : List Nd} (h : FitN l) (hx : x ∈ l) : Fit1 x ∧ FitN x.kids := by
  induction l with
  | nil => cases hx
  | cons y r ih =>
    obtain ⟨h1, h2, h3⟩ := fitN_cons.1 h
    rcases List.mem_cons.1 hx with rfl | hx
    · exact ⟨h1, h2⟩
    · exact ih h3 hx
theorem RepN.look {S : Nat → Prop} {w w' : World} {a : Option Addr} {n cap : Nat} {l : List Nd} {B : Nat} (h : RepN S w (.slice a n cap) l) (hS : ∀ b, S b → b < B) (hw : Below B w w') (i : Nat) (hi : i < l.length) :
    ∃ b off va vk, a = some ⟨b, off, none⟩ ∧ S b ∧ w'.cell? ⟨b, off + i * 5, none⟩ = some (.int .i64 l[i].kind) ∧ w'.cell? ⟨b, off + i * 5 + 1, none⟩ = some (.string l[i].name) ∧ w'.cell? ⟨b, off + i * 5 + 2, none⟩ = some va ∧
      w'.cell? ⟨b, off + i * 5 + 3, none⟩ = some (.string l[i].text) ∧ w'.cell? ⟨b, off + i * 5 + 4, none⟩ = some vk ∧ RepV S w l[i] va vk := by
  obtain ⟨b, off, va, vk, h1, h2, c0, c1, c2, c3, c4, h3⟩ := h.at_ i hi
  have hb := hS b h2
  have k := fun o => hw.cell (p := ⟨b, o, none⟩) hb
  exact ⟨b, off, va, vk, h1, h2, (k _).trans c0, (k _).trans c1, (k _).trans c2, (k _).trans c3, (k _).trans c4, h3⟩

set_option maxHeartbeats 4000000 in
set_option maxRecDepth 100000 in
theorem writeNodes {B F g : Nat} {P : List UInt8 → World → Prop} (hp : Puts B F g P) (w0 : World) (S : Nat → Prop) (hS : ∀ b, S b → b < B) (wt : Nat) : ∀ (v : Value) (l : List Nd) (raw : Bool) (acc : List UInt8) (w : World), M3.weight l < wt → FitN l → RepN S w0 v l → Below B w0 w → P acc w → acc.length + (M4.textB raw l).length ≤ 70368744177664 →
    Calls Try.prog 58 #[v, .bool raw, .func (.func F) #[] #[.pointer (some ⟨g, 0, none⟩)]] w (PutPost B P (acc ++ M4.textB raw l) w) := by
  induction wt with
  | zero => intro v l raw acc w h; omega
  | succ wt ih =>
  intro v l raw acc w hwt hfit hr hw hP hl
  obtain ⟨a, cap, rfl⟩ := hr.slice
  obtain ⟨_, hlc, hcm⟩ := hr.len
  have hE := hp.enter
  have hB := hp.base _ _ hP
  replace ih := Lib.hid ih
  replace hfit := Lib.hid hfit
  replace hw := Lib.hid hw
  have h0 : P (acc ++ M4.textB raw (l.take 0)) w := by rw [List.take_zero, M4.textB_nil, List.append_nil]; exact hP
  go_enter Try.func58, Try.ntmps58
  go_wp2_with fail
  go_loopw [7, 10] (fun _ u10 wr => ∃ i : Nat, i ≤ l.length ∧ u10 = .int .i64 (i : Int) ∧ P (acc ++ M4.textB raw (l.take i)) wr ∧ Kw B w wr) (fun _ u10 _ => l.length - (intOf u10).toNat)
  case atStart => exact ⟨0, by omega, rfl, h0, Kw.refl _ _⟩
  case round =>
    obtain ⟨i, hi, rfl, hP3, hk3⟩ := hrel
    by_cases hlt : i < l.length
    · have hrw := hw.out.trans hk3.low
      obtain ⟨b, off, va, vk, rfl, hSb, c0, c1, c2, c3, c4, hrv⟩ := hr.look hS hrw i hlt
      have hbl := hS b hSb
      have hz3 := hp.base _ _ hP3
      have hfx := fitN_mem hfit.out (List.getElem_mem hlt)
      have hwk := weight_mem (List.getElem_mem hlt)
      have hpre := M4.textB_prefix raw l (i + 1)
      have htk := M4.textB_take raw l i hlt
      rw [htk] at hpre
      rw [List.length_append] at hpre
      have hl3 : (acc ++ M4.textB raw (l.take i)).length + (M4.oneB raw l[i]).length ≤ 70368744177664 := by rw [List.length_append]; omega
      have hab : Hid (acc ++ M4.textB raw (l.take i) ++ M4.oneB raw l[i] = acc ++ M4.textB raw (l.take (i + 1))) := by show _ = _; rw [htk, List.append_assoc]
      clear hpre htk
      generalize l[i] = x at *
      generalize hA2 : acc ++ M4.textB raw (l.take (i + 1)) = A2 at *
      replace hA2 := Lib.hid hA2
      generalize acc ++ M4.textB raw (l.take i) = A1 at *
      obtain ⟨a1, e1, rfl⟩ := hrv.at_.slice
      obtain ⟨a2, e2, rfl⟩ := hrv.kids.slice
      have bo := (Below.refl _ wr).alloc (Nat.le_refl _) (.cells (x.cells (.slice a1 x.attrs.length e1) (.slice a2 x.kids.length e2)).toArray 28)
      have hP4 := hp.stab _ _ _ hP3 bo
      have hk4 := Lib.hid (hk3.trans (Kw.of_below bo hz3))
      have bx := Box.new wr 28 (x.cells (.slice a1 x.attrs.length e1) (.slice a2 x.kids.length e2))
      have hI0 : (i : Int) < (l.length : Int) := by omega
      have fin : ∀ W, P (A1 ++ M4.oneB raw x) W → P A2 W := fun W h => hab.out ▸ h
      replace fin := Lib.hid fin
      clear hab hP3 hk3
      have hrb := hrw.trans (bo.mono hz3)
      replace hrw := Lib.hid hrw
      by_cases k1 : x.kind = 1
      · have hEl := Lib.hid (writeElement hp S x (.slice a1 x.attrs.length e1) (.slice a2 x.kids.length e2) A1 _ w0 hS hrv hrb hfx.1 hP4 k1 (fun acc raw W hW hPW hlW => ih.out _ _ raw acc W (by omega) hfx.2 hrv.kids hW hPW hlW) (by rw [M4.oneB_1 k1] at hl3 ⊢; exact hl3))
        have fin2 := Lib.hid (fun W (h : P (A1 ++ M4.oneB false x) W) => fin.out W (by rw [M4.oneB_1 k1] at h ⊢; exact h))
        have k1b : (x.kind == 1) = true := by simpa using k1
        replace k1 := Lib.hid k1
        clear fin hrb
        go_wp2_with fail
        refine hEl.out.mono ?_
        rintro e w2 ⟨rfl, hP5, hk5⟩
        have hP6 := Lib.hid (fin2.out _ hP5)
        go_wp2_with fail
        go_roundw
        case rel => exact ⟨i + 1, by omega, by go_num, by rw [hA2.out]; exact hP6.out, hk4.out.trans hk5⟩
        case measure => exact wr_meas hlt
      have k1b : (x.kind == 1) = false := by simpa using k1
      by_cases k2 : x.kind = 2
      · have hsz := hfx.1.2.1
        rw [M4.oneB_2 k2] at hl3
        have hTx := Lib.hid (writeText hp x.text raw A1 _ hP4 (by omega) hl3)
        have fin2 := Lib.hid (fun W (h : P (A1 ++ M4.charsB raw x.text) W) => fin.out W (by rw [M4.oneB_2 k2]; exact h))
        have k2b : (x.kind == 2) = true := by simpa using k2
        replace k2 := Lib.hid k2
        clear fin hrb
        go_wp2_with fail
        refine hTx.out.mono ?_
        rintro e w2 ⟨rfl, hP5, hk5⟩
        have hP6 := Lib.hid (fin2.out _ hP5)
        go_wp2_with fail
        go_roundw
        case rel => exact ⟨i + 1, by omega, by go_num, by rw [hA2.out]; exact hP6.out, hk4.out.trans hk5⟩
        case measure => exact wr_meas hlt
      have k2b : (x.kind == 2) = false := by simpa using k2
      by_cases k3 : x.kind = 3
      · have hsz := hfx.1.2.1
        rw [M4.oneB_3 k3, M4.commB_len] at hl3
        have fin2 := Lib.hid (fun W (h : P (A1 ++ (⟨#[60, 33, 45, 45]⟩ : ByteArray).data.toList ++ x.text.data.toList ++ (⟨#[45, 45, 62]⟩ : ByteArray).data.toList) W) => fin.out W (by rw [M4.oneB_3 k3, M4.commB]; simpa using h))
        have k3b : (x.kind == 3) = true := by simpa using k3
        replace k3 := Lib.hid k3
        clear fin hrb
        go_wp2_with fail
        refine (hp.call A1 ⟨#[60, 33, 45, 45]⟩ _ hP4 (by show A1.length + 4 ≤ _; omega)).mono ?_
        rintro e w2 ⟨rfl, hP5, hk5⟩
        have bx1 := hk5.box bx (.inl rfl)
        have d3 := bx1.cell (i := 3) rfl
        clear bx c0 c1 c2 c3 c4
        go_wp2_with fail
        refine (hp.call _ x.text _ hP5 (by rw [List.length_append]; show A1.length + 4 + x.text.size ≤ _; omega)).mono ?_
        rintro e w3 ⟨rfl, hP6, hk6⟩
        go_wp2_with fail
        refine (hp.call _ ⟨#[45, 45, 62]⟩ _ hP6 (by rw [List.length_append, List.length_append]; show A1.length + 4 + x.text.size + 3 ≤ _; omega)).mono ?_
        rintro e w4 ⟨rfl, hP7, hk7⟩
        have hP8 := Lib.hid (fin2.out _ hP7)
        clear hP7
        go_wp2_with fail
        go_roundw
        case rel => exact ⟨i + 1, by omega, by go_num, by rw [hA2.out]; exact hP8.out, ((hk4.out.trans hk5).trans hk6).trans hk7⟩
        case measure => exact wr_meas hlt
      · have k3b : (x.kind == 3) = false := by simpa using k3
        have hP5 := Lib.hid (fin.out _ (by rw [M4.oneB_4 k1 k2 k3, List.append_nil]; exact hP4))
        replace k1 := Lib.hid k1
        replace k2 := Lib.hid k2
        replace k3 := Lib.hid k3
        clear fin hrb
        go_wp2_with fail
        go_roundw
        case rel => exact ⟨i + 1, by omega, by go_num, by rw [hA2.out]; exact hP5.out, hk4.out⟩
        case measure => exact wr_meas hlt
    · obtain rfl : i = l.length := by omega
      rw [List.take_length] at hP3
      replace hP3 := Lib.hid hP3
      go_wp2_with fail
      go_end0
      exact ⟨rfl, hP3.out, hk3⟩

theorem plainT_len (l : List Nd) : FitN l → (M4.plainT l).length ≤ M3.weight l * 4294967296 := by
  induction l using Nd.ind with
  | h0 => intro _; rw [M4.plainT_nil]; simp
  | h1 k n ats t ks r ih1 ih2 =>
    intro hf
    obtain ⟨f1, f2, f3⟩ := fitN_cons.1 hf
    rw [M4.plainT_cons, M3.weight_cons, List.length_append]
    have h2 := ih2 f3
    have h1 := ih1 f2
    have h9 : t.data.toList.length ≤ 268435456 := f1.2.1
    have h10 : (M4.plain1 (.mk k n ats t ks)).length ≤ (1 + M3.weight ks) * 4294967296 := by
      unfold M4.plain1
      rw [List.length_append]
      show _ + (M4.plainT ks).length ≤ _
      split
      · show t.data.toList.length + _ ≤ _; omega
      · rw [List.length_nil]; omega
    simp only [Nd.attrs, Nd.kids] at *
    omega

set_option maxHeartbeats 4000000 in
set_option maxRecDepth 100000 in
theorem writePlain_put {B F g : Nat} {P : List UInt8 → World → Prop} (hp : Puts B F g P) (w0 : World) (S : Nat → Prop) (hS : ∀ b, S b → b < B) (wt : Nat) : ∀ (v : Value) (l : List Nd) (acc : List UInt8) (w : World), M3.weight l < wt → FitN l → RepN S w0 v l → Below B w0 w → P acc w → acc.length + (M4.plainT l).length ≤ 70368744177664 →
    Calls Try.prog 66 #[v, .func (.func F) #[] #[.pointer (some ⟨g, 0, none⟩)]] w (PutPost B P (acc ++ M4.plainT l) w) := by
  induction wt with
  | zero => intro v l acc w h; omega
  | succ wt ih =>
  intro v l acc w hwt hfit hr hw hP hl
  obtain ⟨a, cap, rfl⟩ := hr.slice
  obtain ⟨_, hlc, hcm⟩ := hr.len
  have hE := hp.enter
  have hB := hp.base _ _ hP
  replace ih := Lib.hid ih
  replace hfit := Lib.hid hfit
  replace hw := Lib.hid hw
  have h0 : P (acc ++ M4.plainT (l.take 0)) w := by rw [List.take_zero, M4.plainT_nil, List.append_nil]; exact hP
  go_enter Try.func66, Try.ntmps66
  go_wp2_with fail
  go_loopw [5, 8] (fun _ u8 wr => ∃ i : Nat, i ≤ l.length ∧ u8 = .int .i64 (i : Int) ∧ P (acc ++ M4.plainT (l.take i)) wr ∧ Kw B w wr) (fun _ u8 _ => l.length - (intOf u8).toNat)
  case atStart => exact ⟨0, by omega, rfl, h0, Kw.refl _ _⟩
  case round =>
    obtain ⟨i, hi, rfl, hP3, hk3⟩ := hrel
    by_cases hlt : i < l.length
    · have hrw := hw.out.trans hk3.low
      obtain ⟨b, off, va, vk, rfl, hSb, c0, c1, c2, c3, c4, hrv⟩ := hr.look hS hrw i hlt
      have hbl := hS b hSb
      have hz3 := hp.base _ _ hP3
      have hfx := fitN_mem hfit.out (List.getElem_mem hlt)
      have hwk := weight_mem (List.getElem_mem hlt)
      have hpre := M4.plainT_prefix l (i + 1)
      have htk := M4.plainT_take l i hlt
      rw [htk] at hpre
      rw [List.length_append] at hpre
      have hl3 : (acc ++ M4.plainT (l.take i)).length + (M4.plain1 l[i]).length ≤ 70368744177664 := by rw [List.length_append]; omega
      have hab : Hid (acc ++ M4.plainT (l.take i) ++ M4.plain1 l[i] = acc ++ M4.plainT (l.take (i + 1))) := by show _ = _; rw [htk, List.append_assoc]
      clear hpre htk
      generalize l[i] = x at *
      generalize hA2 : acc ++ M4.plainT (l.take (i + 1)) = A2 at *
      replace hA2 := Lib.hid hA2
      generalize acc ++ M4.plainT (l.take i) = A1 at *
      obtain ⟨a1, e1, rfl⟩ := hrv.at_.slice
      obtain ⟨a2, e2, rfl⟩ := hrv.kids.slice
      have bo := (Below.refl _ wr).alloc (Nat.le_refl _) (.cells (x.cells (.slice a1 x.attrs.length e1) (.slice a2 x.kids.length e2)).toArray 28)
      have hP4 := hp.stab _ _ _ hP3 bo
      have hk4 := hk3.trans (Kw.of_below bo hz3)
      have bx := Box.new wr 28 (x.cells (.slice a1 x.attrs.length e1) (.slice a2 x.kids.length e2))
      have hI0 : (i : Int) < (l.length : Int) := by omega
      have fin : ∀ W, P (A1 ++ M4.plain1 x) W → P A2 W := fun W h => hab.out ▸ h
      replace fin := Lib.hid fin
      have hih := Lib.hid (fun (acc : List UInt8) (W : World) (hW : Below B w0 W) (hPW : P acc W) (hlW : acc.length + (M4.plainT x.kids).length ≤ 70368744177664) => ih.out _ _ acc W (by omega) hfx.2 hrv.kids hW hPW hlW)
      clear hab hP3 hk3
      have hrb := hrw.trans (bo.mono hz3)
      replace hrw := Lib.hid hrw
      by_cases k2 : x.kind = 2
      · have e2 : M4.plain1 x = x.text.data.toList ++ M4.plainT x.kids := by unfold M4.plain1; rw [if_pos k2]
        have fin2 := Lib.hid (fun W (h : P (A1 ++ x.text.data.toList ++ M4.plainT x.kids) W) => fin.out W (by rw [e2, ← List.append_assoc]; exact h))
        rw [e2, List.length_append] at hl3
        have hl3 : A1.length + (x.text.size + (M4.plainT x.kids).length) ≤ 70368744177664 := hl3
        have k2b : (x.kind == 2) = true := by simpa using k2
        replace k2 := Lib.hid k2
        clear fin e2
        replace hk4 := Lib.hid hk4
        replace hrb := Lib.hid hrb
        go_wp2_with fail
        refine (hp.call A1 x.text _ hP4 (by omega)).mono ?_
        rintro e w2 ⟨rfl, hP5, hk5⟩
        have bx1 := hk5.box bx (.inl rfl)
        have d4 := bx1.cell (i := 4) rfl
        clear bx c0 c1 c2 c3 c4
        go_wp2_with fail
        refine (hih.out _ _ (hrb.out.trans hk5.low) hP5 (by rw [List.length_append]; show A1.length + x.text.size + _ ≤ _; omega)).mono ?_
        rintro e w3 ⟨rfl, hP6, hk6⟩
        have hP7 := Lib.hid (fin2.out _ hP6)
        go_wp2_with fail
        go_roundw
        case rel => exact ⟨i + 1, by omega, by go_num, by rw [hA2.out]; exact hP7.out, (hk4.out.trans hk5).trans hk6⟩
        case measure => exact wr_meas hlt
      · have e2 : M4.plain1 x = M4.plainT x.kids := by unfold M4.plain1; rw [if_neg k2]; rfl
        have fin2 := Lib.hid (fun W (h : P (A1 ++ M4.plainT x.kids) W) => fin.out W (by rw [e2]; exact h))
        rw [e2] at hl3
        have k2b : (x.kind == 2) = false := by simpa using k2
        replace k2 := Lib.hid k2
        clear fin e2
        replace hk4 := Lib.hid hk4
        have d4 := bx.cell (i := 4) rfl
        go_wp2_with fail
        refine (hih.out _ _ hrb hP4 hl3).mono ?_
        rintro e w3 ⟨rfl, hP6, hk6⟩
        have hP7 := Lib.hid (fin2.out _ hP6)
        go_wp2_with fail
        go_roundw
        case rel => exact ⟨i + 1, by omega, by go_num, by rw [hA2.out]; exact hP7.out, hk4.out.trans hk6⟩
        case measure => exact wr_meas hlt
    · obtain rfl : i = l.length := by omega
      rw [List.take_length] at hP3
      replace hP3 := Lib.hid hP3
      go_wp2_with fail
      go_end0
      exact ⟨rfl, hP3.out, hk3⟩
end Go.Proofs.Ytjelmpajphajfaa

/- Package write: Text, Open, Close, Length, Plain. -/
namespace Go.Proofs.Ytjelmpajphajfaa
open Go.RowKit Go.Shelf

/-- What a builder of the call's own holds. -/
def PB (b : Nat) (acc : List UInt8) (w : World) : Prop := Lib.IsBuilderF 79 5 b b (u8s acc) w ∧ b ≤ w.heap.size
theorem isBuilderF_below {T e : TypeId} {B b : Nat} {bs : List Value} {w w' : World} (h : Lib.IsBuilderF T e B b bs w) (hb : Below w.heap.size w w') : Lib.IsBuilderF T e B b bs w' := by
  have key : ∀ p, Lib.BuilderAtF T e B b p bs w → Lib.BuilderAtF T e B b p bs w' := by
    rintro p ⟨h1, v, h2, h3, h4⟩
    refine ⟨h1, v, (hb.block b (Array.getElem?_eq_some_iff.1 h2).1).trans h2, ⟨h3.1, ?_⟩, h4⟩
    rcases h3.2 with h5 | ⟨g, cap, cur, fz, hv, hg1, hg2, hg3⟩
    · exact .inl h5
    · exact .inr ⟨g, cap, cur, fz, hv, hg1, (hb.block g (Array.getElem?_eq_some_iff.1 hg2).1).trans hg2, hg3⟩
  exact h.elim (fun x => .inl (key _ x)) (fun x => .inr (key _ x))
theorem kn_of_others {b : Nat} {w w' : World} (h : Below b w w') (k : Lib.OthersKept 5 (some b) w w') (hb : ∃ c fr, w.heap[b]? = some (.cells c 79 fr)) : Kw b w w' := by
  refine ⟨h, fun i c t fr hi ht => k i _ hi ?_ ?_⟩
  · intro e
    obtain ⟨c', fr', h'⟩ := hb
    cases e
    rw [h'] at hi
    cases hi
    rcases ht with h | h | h <;> exact absurd h (by decide)
  · intro c' fz e
    cases e
    rcases ht with h | h | h <;> exact absurd h (by decide)

set_option maxHeartbeats 2000000 in
set_option maxRecDepth 100000 in
theorem putsB (b : Nat) : Puts b 83 b (PB b) where
  enter := enters_of Try.func83 (by kernel_rfl) rfl
  base := fun acc w h => h.2
  stab := fun acc w w' h hb => ⟨isBuilderF_below h.1 hb, Nat.le_trans h.2 hb.size⟩
  call := by
    intro acc s w h hl
    have hw := Lib.hid (bWriteString b b (u8s acc) s w h.1 (by rw [u8s_length]; omega) h.2)
    have hblk : ∃ c fr, w.heap[b]? = some (.cells c 79 fr) := by
      rcases h.1 with ⟨_, v, hv, _⟩ | ⟨_, v, hv, _⟩ <;> exact ⟨_, _, hv⟩
    have hb := h.2
    replace hblk := Lib.hid hblk
    clear h
    go_enter Try.func83, Try.ntmps83
    go_wp2_with fail
    refine hw.out.mono ?_
    rintro e w1 ⟨rfl, h1, h2, h3⟩
    have hP : PB b (acc ++ s.data.toList) w1 := ⟨.inr (by rw [u8s_append]; exact h1), Nat.le_trans hb h2.size⟩
    have hK := kn_of_others h2 h3 hblk.out
    replace hP := Lib.hid hP
    go_wp2_with fail
    go_end0
    exact ⟨rfl, hP.out, hK⟩

def TextPost (out : List UInt8) (w : World) (e : Ending) (w' : World) : Prop := e = .returned (.string ⟨out.toArray⟩) ∧ Below w.heap.size w w'
set_option maxHeartbeats 2000000 in
set_option maxRecDepth 100000 in
theorem writeJoined (G h : Nat) (out : List UInt8) (w : World) (hE : ∀ (args : Array Value) (w : World), (callFunc G args).run Try.prog w = .ok (.enter G args) w)
    (hG : ∀ w1, Below w.heap.size w w1 → PB w.heap.size [] w1 → Calls Try.prog G #[.func (.func 83) #[] #[.pointer (some ⟨w.heap.size, 0, none⟩)], .pointer (some ⟨h, 0, none⟩)] w1 (PutPost w.heap.size (PB w.heap.size) out w1)) :
    Calls Try.prog 56 #[.func (.func G) #[] #[.pointer (some ⟨h, 0, none⟩)]] w (TextPost out w) := by
  have b0 : Below w.heap.size w (w.alloc (.cells #[.pointer none, .slice none 0 0] 79)) := (Below.refl _ w).alloc (Nat.le_refl _) _
  have h0 : PB w.heap.size [] (w.alloc (.cells #[.pointer none, .slice none 0 0] 79)) := ⟨Lib.IsBuilderF.of (Lib.fresh_isBuilder 79 5 w), by simp⟩
  have hG1 := Lib.hid (hG _ b0 h0)
  replace b0 := Lib.hid b0
  clear hG h0
  go_enter Try.func56, Try.ntmps56
  go_wp2_with fail
  refine hG1.out.mono ?_
  rintro e w1 ⟨rfl, hP1, hk1⟩
  clear hG1
  go_wp2_with fail
  refine (bString w.heap.size w.heap.size _ _ hP1.1 hP1.2).mono ?_
  rintro e w2 ⟨rfl, _, b1, _⟩
  go_wp2_with fail
  go_ret
  exact ⟨rfl, (b0.out.trans hk1.low).trans b1⟩

set_option maxHeartbeats 2000000 in
set_option maxRecDepth 100000 in
theorem writeText1 {B F g : Nat} {P : List UInt8 → World → Prop} (hp : Puts B F g P) (w0 : World) (S : Nat → Prop) (hS : ∀ b, S b → b < B) (h : Nat) (v : Value) (l : List Nd) (acc : List UInt8) (w : World) (hc : w.cell? ⟨h, 0, none⟩ = some v) (hf : FitN l) (hr : RepN S w0 v l) (hw : Below B w0 w) (hP : P acc w) (hl : acc.length + (M4.textB false l).length ≤ 70368744177664) :
    Calls Try.prog 57 #[.func (.func F) #[] #[.pointer (some ⟨g, 0, none⟩)], .pointer (some ⟨h, 0, none⟩)] w (PutPost B P (acc ++ M4.textB false l) w) := by
  have hN := Lib.hid (writeNodes hp w0 S hS (M3.weight l + 1) _ l false acc w (by omega) hf hr hw hP hl)
  obtain ⟨a, cap, rfl⟩ := hr.slice
  clear hP hw
  go_enter Try.func57, Try.ntmps57
  go_wp2_with fail
  refine hN.out.mono ?_
  rintro e w2 ⟨rfl, hP2, hk2⟩
  replace hP2 := Lib.hid hP2
  go_wp2_with fail
  go_end0
  exact ⟨rfl, hP2.out, hk2⟩

set_option maxHeartbeats 2000000 in
set_option maxRecDepth 100000 in
theorem writeTextOf (S : Nat → Prop) (v : Value) (l : List Nd) (w : World) (hS : ∀ b, S b → b < w.heap.size) (hr : RepN S w v l) (hf : FitN l) (hl : (M4.textB false l).length ≤ 70368744177664) :
    Calls Try.prog 30 #[v] w (TextPost (M4.textB false l) w) := by
  obtain ⟨a, cap, rfl⟩ := hr.slice
  have b0 : Below w.heap.size w (w.alloc (.cells #[.slice a l.length cap] 22)) := (Below.refl _ w).alloc (Nat.le_refl _) _
  have hJ := Lib.hid (writeJoined 57 w.heap.size (M4.textB false l) (w.alloc (.cells #[.slice a l.length cap] 22)) (enters_of Try.func57 (by kernel_rfl) rfl) (fun w1 hb1 hP1 =>
    writeText1 (putsB _) (w.alloc (.cells #[.slice a l.length cap] 22)) S (fun b h => by have := hS b h; simp; omega) w.heap.size _ l [] w1 ((hb1.cell (p := ⟨w.heap.size, 0, none⟩) (by simp)).trans ((Box.new w 22 [.slice a l.length cap]).cell (i := 0) rfl)) hf (hr.keep (fun b h => b0.block b (hS b h))) hb1 hP1 (by simpa using hl)))
  replace b0 := Lib.hid b0
  go_enter Try.func30, Try.ntmps30
  go_wp2_with fail
  refine hJ.out.mono ?_
  rintro e w2 ⟨rfl, hb2⟩
  go_wp2_with fail
  go_ret
  exact ⟨rfl, b0.out.trans (hb2.mono (by simp))⟩

/-- What a variable of the call's own counts. -/
def PL (b : Nat) (acc : List UInt8) (w : World) : Prop := Box w b 3 [.int .i64 (acc.length : Int)] ∧ b ≤ w.heap.size
set_option maxHeartbeats 2000000 in
set_option maxRecDepth 100000 in
theorem putsL (b : Nat) : Puts b 60 b (PL b) where
  enter := enters_of Try.func60 (by kernel_rfl) rfl
  base := fun acc w h => h.2
  stab := fun acc w w' h hb => ⟨h.1.below hb h.1.lt, Nat.le_trans h.2 hb.size⟩
  call := by
    intro acc s w h hl
    have hbx := h.1
    have c0 := hbx.cell (i := 0) rfl
    have f0 := hbx.free 0
    have hz := hbx.lt
    have hb1 := hbx.set 0 (.int .i64 ((acc.length : Int) + (s.size : Int)))
    have hK : Kw b w (w.setCell ⟨b, 0, none⟩ (.int .i64 ((acc.length : Int) + (s.size : Int)))) := ⟨(Below.refl _ _).setCell (p := ⟨b, 0, none⟩) (Nat.le_refl _) _, fun i c t fr hi ht => by
      refine (Below.heap_setCell _ _ _ _ ?_).trans hi
      rintro rfl
      unfold Box at hbx
      rw [hbx] at hi
      cases hi
      rcases ht with h | h | h <;> exact absurd h (by decide)⟩
    have hP : PL b (acc ++ s.data.toList) (w.setCell ⟨b, 0, none⟩ (.int .i64 ((acc.length : Int) + (s.size : Int)))) := ⟨by rw [List.length_append]; exact hb1, by have := hK.size; omega⟩
    replace hP := Lib.hid hP
    replace hK := Lib.hid hK
    clear h hbx hb1
    go_enter Try.func60, Try.ntmps60
    go_wp2_with fail
    go_end0
    exact ⟨rfl, hP.out, hK.out⟩

def LenPost (n : Nat) (w : World) (e : Ending) (w' : World) : Prop := e = .returned (.int .i64 (n : Int)) ∧ Below w.heap.size w w'
set_option maxHeartbeats 2000000 in
set_option maxRecDepth 100000 in
theorem writeLength (S : Nat → Prop) (v : Value) (l : List Nd) (w : World) (hS : ∀ b, S b → b < w.heap.size) (hr : RepN S w v l) (hf : FitN l) (hl : (M4.textB false l).length ≤ 70368744177664) :
    Calls Try.prog 32 #[v] w (LenPost (M4.textB false l).length w) := by
  obtain ⟨a, cap, rfl⟩ := hr.slice
  have b0 : Below w.heap.size w (w.alloc (.cells #[.int .i64 0] 3)) := (Below.refl _ w).alloc (Nat.le_refl _) _
  have hN := Lib.hid (writeNodes (putsL w.heap.size) w S hS (M3.weight l + 1) _ l false [] (w.alloc (.cells #[.int .i64 0] 3)) (by omega) hf hr b0 ⟨Box.new w 3 [.int .i64 0], by simp⟩ (by simpa using hl))
  replace b0 := Lib.hid b0
  go_enter Try.func32, Try.ntmps32
  go_wp2_with fail
  refine hN.out.mono ?_
  rintro e w2 ⟨rfl, hP2, hk2⟩
  have c0 := hP2.1.cell (i := 0) rfl
  clear hP2 hN
  rw [List.nil_append] at c0
  go_wp2_with fail
  go_ret
  exact ⟨rfl, b0.out.trans hk2.low⟩

set_option maxHeartbeats 2000000 in
set_option maxRecDepth 100000 in
theorem writePlain1 {B F g : Nat} {P : List UInt8 → World → Prop} (hp : Puts B F g P) (w0 : World) (S : Nat → Prop) (hS : ∀ b, S b → b < B) (h : Nat) (v : Value) (l : List Nd) (acc : List UInt8) (w : World) (hc : w.cell? ⟨h, 0, none⟩ = some v) (hf : FitN l) (hr : RepN S w0 v l) (hw : Below B w0 w) (hP : P acc w) (hl : acc.length + (M4.plainT l).length ≤ 70368744177664) :
    Calls Try.prog 65 #[.func (.func F) #[] #[.pointer (some ⟨g, 0, none⟩)], .pointer (some ⟨h, 0, none⟩)] w (PutPost B P (acc ++ M4.plainT l) w) := by
  have hN := Lib.hid (writePlain_put hp w0 S hS (M3.weight l + 1) _ l acc w (by omega) hf hr hw hP hl)
  obtain ⟨a, cap, rfl⟩ := hr.slice
  clear hP hw
  go_enter Try.func65, Try.ntmps65
  go_wp2_with fail
  refine hN.out.mono ?_
  rintro e w2 ⟨rfl, hP2, hk2⟩
  replace hP2 := Lib.hid hP2
  go_wp2_with fail
  go_end0
  exact ⟨rfl, hP2.out, hk2⟩

set_option maxHeartbeats 2000000 in
set_option maxRecDepth 100000 in
theorem writePlain (S : Nat → Prop) (v : Value) (l : List Nd) (w : World) (hS : ∀ b, S b → b < w.heap.size) (hr : RepN S w v l) (hf : FitN l) (hl : (M4.plainT l).length ≤ 70368744177664) :
    Calls Try.prog 38 #[v] w (TextPost (M4.plainT l) w) := by
  obtain ⟨a, cap, rfl⟩ := hr.slice
  have b0 : Below w.heap.size w (w.alloc (.cells #[.slice a l.length cap] 22)) := (Below.refl _ w).alloc (Nat.le_refl _) _
  have hJ := Lib.hid (writeJoined 65 w.heap.size (M4.plainT l) (w.alloc (.cells #[.slice a l.length cap] 22)) (enters_of Try.func65 (by kernel_rfl) rfl) (fun w1 hb1 hP1 =>
    writePlain1 (putsB _) (w.alloc (.cells #[.slice a l.length cap] 22)) S (fun b h => by have := hS b h; simp; omega) w.heap.size _ l [] w1 ((hb1.cell (p := ⟨w.heap.size, 0, none⟩) (by simp)).trans ((Box.new w 22 [.slice a l.length cap]).cell (i := 0) rfl)) hf (hr.keep (fun b h => b0.block b (hS b h))) hb1 hP1 (by simpa using hl)))
  replace b0 := Lib.hid b0
  go_enter Try.func38, Try.ntmps38
  go_wp2_with fail
  refine hJ.out.mono ?_
  rintro e w2 ⟨rfl, hb2⟩
  go_wp2_with fail
  go_ret
  exact ⟨rfl, b0.out.trans (hb2.mono (by simp))⟩

set_option maxHeartbeats 2000000 in
set_option maxRecDepth 100000 in
theorem writeOpen1 {B F g : Nat} {P : List UInt8 → World → Prop} (hp : Puts B F g P) (w0 : World) (S : Nat → Prop) (hS : ∀ b, S b → b < B) (h : Nat) (x : Nd) (va vk : Value) (acc : List UInt8) (w : World) (hbx : Box w h 28 (x.cells va vk)) (hf : Fit1 x) (hr : RepV S w0 x va vk) (hw : Below B w0 w) (hP : P acc w) (hl : acc.length + (M4.headB x.name x.attrs).length ≤ 70368744177664) :
    Calls Try.prog 61 #[.func (.func F) #[] #[.pointer (some ⟨g, 0, none⟩)], .pointer (some ⟨h, 0, none⟩)] w (PutPost B P (acc ++ M4.headB x.name x.attrs) w) := by
  have hN := Lib.hid (writeBegin hp S x va vk acc w w0 hS hr hw hf hP hl)
  obtain ⟨a1, e1, rfl⟩ := hr.at_.slice
  obtain ⟨a2, e2, rfl⟩ := hr.kids.slice
  have c0 := hbx.cell (i := 0) rfl
  have c1 := hbx.cell (i := 1) rfl
  have c2 := hbx.cell (i := 2) rfl
  have c3 := hbx.cell (i := 3) rfl
  have c4 := hbx.cell (i := 4) rfl
  clear hP hw hr
  go_enter Try.func61, Try.ntmps61
  go_wp2_with fail
  refine hN.out.mono ?_
  rintro e w2 ⟨rfl, hP2, hk2⟩
  replace hP2 := Lib.hid hP2
  go_wp2_with fail
  go_end0
  exact ⟨rfl, hP2.out, hk2⟩
set_option maxHeartbeats 2000000 in
set_option maxRecDepth 100000 in
theorem writeClose1 {B F g : Nat} {P : List UInt8 → World → Prop} (hp : Puts B F g P) (h : Nat) (x : Nd) (va vk : Value) (acc : List UInt8) (w : World) (hva : ∃ a n c, va = .slice a n c) (hvk : ∃ a n c, vk = .slice a n c) (hbx : Box w h 28 (x.cells va vk)) (hP : P acc w) (hl : acc.length + (M4.endB x.name).length ≤ 70368744177664) :
    Calls Try.prog 63 #[.func (.func F) #[] #[.pointer (some ⟨g, 0, none⟩)], .pointer (some ⟨h, 0, none⟩)] w (PutPost B P (acc ++ M4.endB x.name) w) := by
  have hN := Lib.hid (writeEnd hp x va vk acc w hva hvk hP hl)
  obtain ⟨a1, n1, e1, rfl⟩ := hva
  obtain ⟨a2, n2, e2, rfl⟩ := hvk
  have c0 := hbx.cell (i := 0) rfl
  have c1 := hbx.cell (i := 1) rfl
  have c2 := hbx.cell (i := 2) rfl
  have c3 := hbx.cell (i := 3) rfl
  have c4 := hbx.cell (i := 4) rfl
  clear hP
  go_enter Try.func63, Try.ntmps63
  go_wp2_with fail
  refine hN.out.mono ?_
  rintro e w2 ⟨rfl, hP2, hk2⟩
  replace hP2 := Lib.hid hP2
  go_wp2_with fail
  go_end0
  exact ⟨rfl, hP2.out, hk2⟩

set_option maxHeartbeats 2000000 in
set_option maxRecDepth 100000 in
theorem writeOpen (S : Nat → Prop) (x : Nd) (va vk : Value) (w : World) (hS : ∀ b, S b → b < w.heap.size) (hr : RepV S w x va vk) (hf : Fit1 x) (hl : (M4.openB x).length ≤ 70368744177664) :
    Calls Try.prog 35 #[x.val va vk] w (TextPost (M4.openB x) w) := by
  obtain ⟨a1, e1, rfl⟩ := hr.at_.slice
  obtain ⟨a2, e2, rfl⟩ := hr.kids.slice
  have b0 : Below w.heap.size w (w.alloc (.cells (x.cells (.slice a1 x.attrs.length e1) (.slice a2 x.kids.length e2)).toArray 28)) := (Below.refl _ w).alloc (Nat.le_refl _) _
  have hbx := Box.new w 28 (x.cells (.slice a1 x.attrs.length e1) (.slice a2 x.kids.length e2))
  by_cases k1 : x.kind = 1
  · have e0 : M4.openB x = M4.headB x.name x.attrs := by unfold M4.openB; rw [if_pos k1]
    rw [e0] at hl ⊢
    have hJ := Lib.hid (writeJoined 61 w.heap.size (M4.headB x.name x.attrs) (w.alloc (.cells (x.cells (.slice a1 x.attrs.length e1) (.slice a2 x.kids.length e2)).toArray 28)) (enters_of Try.func61 (by kernel_rfl) rfl) (fun w1 hb1 hP1 =>
      writeOpen1 (putsB _) (w.alloc (.cells (x.cells (.slice a1 x.attrs.length e1) (.slice a2 x.kids.length e2)).toArray 28)) S (fun b h => by have := hS b h; simp; omega) w.heap.size x _ _ [] w1 (hbx.below hb1 (by simp)) hf (hr.keep (fun b h => b0.block b (hS b h))) hb1 hP1 (by simpa using hl)))
    have k1b : (x.kind != 1) = false := by simpa using k1
    replace b0 := Lib.hid b0
    replace k1 := Lib.hid k1
    clear e0
    go_enter Try.func35, Try.ntmps35
    go_wp2_with fail
    refine hJ.out.mono ?_
    rintro e w2 ⟨rfl, hb2⟩
    go_wp2_with fail
    go_ret
    exact ⟨rfl, b0.out.trans (hb2.mono (by simp))⟩
  · have e0 : M4.openB x = [] := by unfold M4.openB; rw [if_neg k1]
    rw [e0]
    have k1b : (x.kind != 1) = true := by simpa using k1
    replace b0 := Lib.hid b0
    replace k1 := Lib.hid k1
    clear e0
    go_enter Try.func35, Try.ntmps35
    go_wp2_with fail
    go_ret
    exact ⟨rfl, b0.out⟩
set_option maxHeartbeats 2000000 in
set_option maxRecDepth 100000 in
theorem writeClose (x : Nd) (va vk : Value) (w : World) (hva : ∃ a n c, va = .slice a n c) (hvk : ∃ a n c, vk = .slice a n c) (hl : (M4.closeB x).length ≤ 70368744177664) :
    Calls Try.prog 37 #[x.val va vk] w (TextPost (M4.closeB x) w) := by
  obtain ⟨a1, n1, e1, rfl⟩ := hva
  obtain ⟨a2, n2, e2, rfl⟩ := hvk
  have b0 : Below w.heap.size w (w.alloc (.cells (x.cells (.slice a1 n1 e1) (.slice a2 n2 e2)).toArray 28)) := (Below.refl _ w).alloc (Nat.le_refl _) _
  have hbx := Box.new w 28 (x.cells (.slice a1 n1 e1) (.slice a2 n2 e2))
  by_cases k1 : x.kind = 1
  · have e0 : M4.closeB x = M4.endB x.name := by unfold M4.closeB; rw [if_pos k1]
    rw [e0] at hl ⊢
    have hJ := Lib.hid (writeJoined 63 w.heap.size (M4.endB x.name) (w.alloc (.cells (x.cells (.slice a1 n1 e1) (.slice a2 n2 e2)).toArray 28)) (enters_of Try.func63 (by kernel_rfl) rfl) (fun w1 hb1 hP1 =>
      writeClose1 (putsB _) w.heap.size x _ _ [] w1 ⟨_, _, _, rfl⟩ ⟨_, _, _, rfl⟩ (hbx.below hb1 (by simp)) hP1 (by simpa using hl)))
    have k1b : (x.kind != 1) = false := by simpa using k1
    replace b0 := Lib.hid b0
    replace k1 := Lib.hid k1
    clear e0
    go_enter Try.func37, Try.ntmps37
    go_wp2_with fail
    refine hJ.out.mono ?_
    rintro e w2 ⟨rfl, hb2⟩
    go_wp2_with fail
    go_ret
    exact ⟨rfl, b0.out.trans (hb2.mono (by simp))⟩
  · have e0 : M4.closeB x = [] := by unfold M4.closeB; rw [if_neg k1]
    rw [e0]
    have k1b : (x.kind != 1) = true := by simpa using k1
    replace b0 := Lib.hid b0
    replace k1 := Lib.hid k1
    clear e0
    go_enter Try.func37, Try.ntmps37
    go_wp2_with fail
    go_ret
    exact ⟨rfl, b0.out⟩
end Go.Proofs.Ytjelmpajphajfaa

/- Package dom: what nodes weigh, whether they may be. -/
namespace Go.Proofs.Ytjelmpajphajfaa
open Go.RowKit Go.Shelf

attribute [local go_sem] Oper.semAt_some

def sumZ (L : List Nd) : Int := L.foldl (fun s x => wrap64 (s + wrap64 (1 + (x.attrs.length : Int)))) 0
theorem sumZ_snoc (L : List Nd) (x : Nd) : sumZ (L ++ [x]) = wrap64 (sumZ L + wrap64 (1 + (x.attrs.length : Int))) := by simp [sumZ]
theorem sumZ_from (L : List Nd) : ∀ (s : Int), 0 ≤ s → s + ((L.map fun x => 1 + x.attrs.length).sum : Nat) ≤ 4611686018427387904 → L.foldl (fun s x => wrap64 (s + wrap64 (1 + (x.attrs.length : Int)))) s = s + ((L.map fun x => 1 + x.attrs.length).sum : Nat) := by
  induction L with
  | nil => intro s _ _; simp
  | cons x r ih =>
    intro s h0 h
    rw [List.map_cons, List.sum_cons] at h ⊢
    rw [List.foldl_cons, IntWalk.wrap64_in (1 + (x.attrs.length : Int)) (by omega), IntWalk.wrap64_in _ (by omega), ih _ (by omega) (by omega)]
    omega
theorem sumZ_eq (L : List Nd) (h : (L.map fun x => 1 + x.attrs.length).sum ≤ 4611686018427387904) : sumZ L = ((L.map fun x => 1 + x.attrs.length).sum : Nat) := by
  have := sumZ_from L 0 (Int.le_refl _) (by omega)
  rw [Int.zero_add] at this
  exact this
theorem kf_of_below {B : Nat} {W W' : World} (h : Below W.heap.size W W') : KeepsFrom B W W' := ⟨h.size, fun k _ _ hk _ => (h.block k (Array.getElem?_eq_some_iff.1 hk).1).trans hk⟩
theorem Tells.nds {S : Nat → Prop} {w0 : World} {l : List Nd} {T : List (It S w0)} (h : T.map It.pair = M3.seqN 0 l) : T.map It.x = M3.all l := by
  rw [← M3.all_eq 0 l, ← h, List.map_map]; rfl

theorem ownFrom_size {β : Type} (B k : Nat) : OwnFrom B (fun (_ : β) W => k ≤ W.heap.size) := fun _ _ _ _ hs hg _ => Nat.le_trans hs hg.size
theorem box_own {X Y : World} {row : Option Nat} {g : Nat} {t : TypeId} {cs : List Value} (h : Box X g t cs) (hg : X.grownBy Y row) (hr : ∀ r, row = some r → ∃ o : Obj, X.heap[r]? = some o ∧ o.isCells = false) : Box Y g t cs :=
  h.keep (hg.block g h.lt (fun e => by obtain ⟨o, ho, hc⟩ := hr g e.symm; rw [show X.heap[g]? = _ from h] at ho; cases ho; cases hc))
theorem kp5_set {n₀ n₁ g : Nat} (W : World) (u : Value) (h0 : n₀ ≤ g) (h1 : g < n₁) : Kp5 n₀ n₁ W (W.setCell ⟨g, 0, none⟩ u) :=
  ⟨(Below.refl _ _).setCell (p := ⟨g, 0, none⟩) h0 _, fun b _ _ hb _ h => (Below.heap_setCell W ⟨g, 0, none⟩ u b (fun e => by simp at e; omega)).trans h⟩
theorem It.shapes {S : Nat → Prop} {w0 : World} (x : It S w0) : (∃ a c, x.va = .slice a x.x.attrs.length c) ∧ ∃ a c, x.vk = .slice a x.x.kids.length c := ⟨x.rep.at_.slice, x.rep.kids.slice⟩

set_option maxRecDepth 100000 in
set_option maxHeartbeats 4000000 in
theorem domWeight_in (n : Nat) (hn : 3 ≤ n) (S : Nat → Prop) (v : Value) (l : List Nd) (w : World) (hS : ∀ b, S b → b < w.heap.size) (hr : RepN S w v l) (hf : FitN l) (hw : M3.weight l ≤ 4611686018427387904) :
    CallsIn Fence.wide n Try.prog 23 #[v] w fun e W' => e = .returned (.int .i64 (M3.weight l : Int)) ∧ Below w.heap.size w W' := by
  obtain ⟨zs, hrow, hrep⟩ := hr
  obtain ⟨T, hT, hTm⟩ := tells_of (S := S) (w0 := w) l 0 zs hrep hf
  obtain ⟨a, cap, rfl⟩ := hrow.slice
  have hTx := Tells.nds hTm
  have hsum : Hid (sumZ (T.map It.x) = (M3.weight l : Int)) := by
    show _ = _
    rw [hTx, sumZ_eq, ← M3.weight_all]
    rw [← M3.weight_all]; exact hw
  clear hTm hTx
  have hro : Fence.wide.round = none := rfl
  have h1 : 1 ≤ n := by omega
  refine callsIn_of_wp_marks Try.func23 rfl trivial ?_ hro
  simp only [Try.ntmps23, List.size_toArray, List.length_cons, List.length_nil, Nat.reduceAdd, Nat.reduceSub, Array.replicate_succ, Array.replicate_zero, List.push_toArray, List.append_toArray, List.nil_append, List.cons_append]
  gi_wp2_with (refine ⟨trivial, ?_⟩; gi_at_call 43; refine (domEach Fence.wide (n - 1) trivial hro _ _ _ _).mono ?_; rintro e w' ⟨rfl, rfl⟩)
  have bW := (Boxed.new w 3 (.int .i64 0)).alloc (.cells #[.slice a l.length cap] 22)
  have bL := Boxed.new (w.alloc (.cells #[.int .i64 0] 3)) 22 (.slice a l.length cap)
  have hB0 : Below w.heap.size w ((w.alloc (.cells #[.int .i64 0] 3)).alloc (.cells #[.slice a l.length cap] 22)) := ((Below.refl _ w).alloc (Nat.le_refl _) _).alloc (by simp) _
  have hsz : ((w.alloc (.cells #[.int .i64 0] 3)).alloc (.cells #[.slice a l.length cap] 22)).heap.size = w.heap.size + 2 := by simp
  simp only [World.size_alloc] at bL
  obtain ⟨W0, hW0⟩ : ∃ W0, (w.alloc (.cells #[.int .i64 0] 3)).alloc (.cells #[.slice a l.length cap] 22) = W0 := ⟨_, rfl⟩
  rw [hW0] at bW bL hB0 hsz ⊢
  clear hW0
  refine wpIn_rangeFunc_ownH hro h1 (gf := 68) (lb := #[.pointer (some ⟨w.heap.size + 1, 0, none⟩)]) rfl trivial (enters_of Try.func68 (by kernel_rfl) rfl)
    (eachStops Fence.wide rfl (n - 1) trivial trivial hro S w (w.heap.size + 1) w.heap.size (w.heap.size + 2) hS _ l zs T W0 bL.cell hrow hT hB0 (by omega) (by omega))
    (fun h k => h.trans k) (kp5_b (by omega)) (Below.refl _ _) (fun _ => rfl)
    (fun pre W => Boxed W w.heap.size 3 (.int .i64 (sumZ (pre.map It.x))) ∧ Below w.heap.size w W ∧ w.heap.size + 2 ≤ W.heap.size)
    (fun _ _ _ => False)
    (OwnFrom.and (Own.from (boxed_own _ _ _) _) (OwnFrom.and (ownFrom_below (Nat.le_refl _) (by omega)) (ownFrom_size _ _)))
    (fun _ _ _ _ _ hs _ _ => hs)
    ⟨bW, hB0, by omega⟩
    (fun x a' W => ∃ Bx, w.heap.size + 2 ≤ Bx ∧ Box W Bx 28 (x.x.cells x.va x.vk) ∧ a' = { tmps := #[.slice a l.length cap, undef, .int .i64 0, .pointer (some ⟨w.heap.size, 0, none⟩), .pointer (some ⟨Bx, 0, none⟩), .slice a l.length cap, .func (.func 68) #[] #[.pointer (some ⟨w.heap.size + 1, 0, none⟩)], x.x.val x.va x.vk, .int .i64 x.ah, undef, undef, undef, undef, undef, undef, undef], defers := [] })
    (fun x a' _ X Y row hs hg hr => by obtain ⟨Bx, h1, h2, h3⟩ := hs; exact ⟨Bx, h1, box_own h2 hg (fun r e => (hr r e).2), h3⟩)
    ?assign ?body ?done ?stop
  case assign =>
    rintro l0 pre x W K ⟨bW1, hB1, hl1⟩ hK
    obtain ⟨⟨a1, c1, h1⟩, ⟨a2, c2, h2⟩⟩ := x.shapes
    have hx : It.args x = #[x.x.val x.va x.vk, .int .i64 x.ah] := rfl
    rw [hx]
    replace hK := Lib.hid hK
    gi_wp2
    have hbox := Box.new W 28 (x.x.cells x.va x.vk)
    rw [h1, h2] at hbox
    exact hK.out _ _ (kf_of_below ((Below.refl _ W).alloc (Nat.le_refl _) _)) (Kp5.of_below ((Below.refl _ W).alloc (Nat.le_refl _) _) hB1.size) ⟨bW1.alloc _, hB1.alloc hB1.size _, by simp; omega⟩ ⟨W.heap.size, hl1, by rw [h1, h2]; exact hbox, by rw [h1, h2]⟩
  case body =>
    rintro l0 pre x a' W hl ⟨r, hr⟩ ⟨bW1, hB1, hl1⟩ ⟨Bx, hBx, bX, rfl⟩ hlt
    obtain ⟨⟨a1, c1, h1⟩, ⟨a2, c2, h2⟩⟩ := x.shapes
    rw [h1, h2] at bX
    have cW := bW1.cell
    have fW := bW1.frozen
    have cX := bX.cell (i := 2) rfl
    gi_wp2
    exact ⟨(KeepsOthers.setCell _ _ _).from _, kp5_set W _ (Nat.le_refl _) (by omega), by rw [List.map_append, List.map_cons, List.map_nil, sumZ_snoc]; exact bW1.set _, hB1.setCell (p := ⟨w.heap.size, 0, none⟩) (Nat.le_refl _) _, by simpa [World.setCell] using hl1⟩
  case done =>
    rintro D ys W hD rfl ⟨bW1, hB1, hl1⟩ hK
    have cW := bW1.cell
    rw [hsum.out] at cW
    gi_wp2
    refine ⟨by simp, .inl ⟨_, _, rfl, run_takeDeferred hK, ?_⟩⟩
    exact ⟨_, results_tmp rfl _ _ _, rfl, hB1.trans (belowK_b (w := w) (Nat.le_refl _) W D _ _ (by omega) hK rfl rfl)⟩
  case stop =>
    rintro D c pre W _ _ h _
    exact h.elim
end Go.Proofs.Ytjelmpajphajfaa

/- Package dom: whether nodes may be. -/
namespace Go.Proofs.Ytjelmpajphajfaa
open Go.RowKit Go.Shelf

attribute [local go_sem] Oper.semAt_some

theorem firstE_prefix {a b : List (Nd × Int)} (h : a <+: b) (hn : M3.firstE a ≠ 0) : M3.firstE b = M3.firstE a := by
  obtain ⟨c, rfl⟩ := h
  rw [M3.firstE_append, if_pos hn]
theorem firstE_snoc (a : List (Nd × Int)) (p : Nd × Int) (h : M3.firstE a = 0) : M3.firstE (a ++ [p]) = M3.oneE p.1 (p.2 == 2) := by
  rw [M3.firstE_append, if_neg (by simpa using h), M3.firstE, M3.firstE]
  split
  · rfl
  · rename_i h; simp at h; exact h.symm

set_option maxRecDepth 100000 in
set_option maxHeartbeats 4000000 in
theorem domMay_in (n : Nat) (hn : 4 ≤ n) (S : Nat → Prop) (v : Value) (l : List Nd) (w : World) (hS : ∀ b, S b → b < w.heap.size) (hr : RepN S w v l) (hf : FitN l) :
    CallsIn Fence.wide n Try.prog 14 #[v] w fun e W' => e = .returned (.int .i64 (M3.mayE false l)) ∧ Below w.heap.size w W' := by
  obtain ⟨zs, hrow, hrep⟩ := hr
  obtain ⟨T, hT, hTm⟩ := tells_of (S := S) (w0 := w) l 0 zs hrep hf
  obtain ⟨a, cap, rfl⟩ := hrow.slice
  have hfirst : Hid (M3.firstE (T.map It.pair) = M3.mayE false l) := by
    show _ = _
    rw [hTm, M3.may_eq]; rfl
  clear hTm
  have hro : Fence.wide.round = none := rfl
  have h1 : 1 ≤ n := by omega
  refine callsIn_of_wp_marks Try.func14 rfl trivial ?_ hro
  simp only [Try.ntmps14, List.size_toArray, List.length_cons, List.length_nil, Nat.reduceAdd, Nat.reduceSub, Array.replicate_succ, Array.replicate_zero, List.push_toArray, List.append_toArray, List.nil_append, List.cons_append]
  gi_wp2_with (refine ⟨trivial, ?_⟩; gi_at_call 43; refine (domEach Fence.wide (n - 1) trivial hro _ _ _ _).mono ?_; rintro e w' ⟨rfl, rfl⟩)
  have bW := (Boxed.new w 24 (.int .i64 0)).alloc (.cells #[.slice a l.length cap] 22)
  have bL := Boxed.new (w.alloc (.cells #[.int .i64 0] 24)) 22 (.slice a l.length cap)
  have hB0 : Below w.heap.size w ((w.alloc (.cells #[.int .i64 0] 24)).alloc (.cells #[.slice a l.length cap] 22)) := ((Below.refl _ w).alloc (Nat.le_refl _) _).alloc (by simp) _
  have hsz : ((w.alloc (.cells #[.int .i64 0] 24)).alloc (.cells #[.slice a l.length cap] 22)).heap.size = w.heap.size + 2 := by simp
  simp only [World.size_alloc] at bL
  obtain ⟨W0, hW0⟩ : ∃ W0, (w.alloc (.cells #[.int .i64 0] 24)).alloc (.cells #[.slice a l.length cap] 22) = W0 := ⟨_, rfl⟩
  rw [hW0] at bW bL hB0 hsz ⊢
  clear hW0
  refine wpIn_rangeFunc_ownH hro h1 (gf := 68) (lb := #[.pointer (some ⟨w.heap.size + 1, 0, none⟩)]) rfl trivial (enters_of Try.func68 (by kernel_rfl) rfl)
    (eachStops Fence.wide rfl (n - 1) trivial trivial hro S w (w.heap.size + 1) w.heap.size (w.heap.size + 2) hS _ l zs T W0 bL.cell hrow hT hB0 (by omega) (by omega))
    (fun h k => h.trans k) (kp5_b (by omega)) (Below.refl _ _) (fun _ => rfl)
    (fun pre W => (Boxed W w.heap.size 24 (.int .i64 0) ∧ Below w.heap.size w W ∧ w.heap.size + 2 ≤ W.heap.size) ∧ M3.firstE (pre.map It.pair) = 0)
    (fun c pre W => (Boxed W w.heap.size 24 (.int .i64 (M3.firstE (pre.map It.pair))) ∧ Below w.heap.size w W) ∧ (c = .ret ∧ M3.firstE (pre.map It.pair) ≠ 0))
    (OwnFrom.and (OwnFrom.and (Own.from (boxed_own _ _ (fun _ => .int .i64 0)) _) (OwnFrom.and (ownFrom_below (Nat.le_refl _) (by omega)) (ownFrom_size _ _))) (ownFrom_pure _ _))
    (fun c => OwnFrom.and (OwnFrom.and (Own.from (boxed_own _ _ (fun (s : List (It S w)) => .int .i64 (M3.firstE (s.map It.pair)))) _) (ownFrom_below (Nat.le_refl _) (by omega))) (ownFrom_pure _ _))
    ⟨⟨bW, hB0, by omega⟩, rfl⟩
    (fun x a' W => ∃ Bx, w.heap.size + 2 ≤ Bx ∧ Box W Bx 28 (x.x.cells x.va x.vk) ∧ a' = { tmps := #[.slice a l.length cap, undef, .pointer (some ⟨w.heap.size, 0, none⟩), .pointer (some ⟨Bx, 0, none⟩), .int .i64 x.ah, undef, .slice a l.length cap, .func (.func 68) #[] #[.pointer (some ⟨w.heap.size + 1, 0, none⟩)], x.x.val x.va x.vk, .int .i64 x.ah, undef, undef, undef, undef, undef, undef], defers := [] })
    (fun x a' _ X Y row hs hg hr => by obtain ⟨Bx, h1, h2, h3⟩ := hs; exact ⟨Bx, h1, box_own h2 hg (fun r e => (hr r e).2), h3⟩)
    ?assign ?body ?done ?stop
  case assign =>
    rintro l0 pre x W K ⟨⟨bW1, hB1, hl1⟩, hp⟩ hK
    obtain ⟨⟨a1, c1, h1⟩, ⟨a2, c2, h2⟩⟩ := x.shapes
    have hx : It.args x = #[x.x.val x.va x.vk, .int .i64 x.ah] := rfl
    rw [hx]
    replace hK := Lib.hid hK
    replace hp := Lib.hid hp
    gi_wp2
    have hbox := Box.new W 28 (x.x.cells x.va x.vk)
    rw [h1, h2] at hbox
    exact hK.out _ _ (kf_of_below ((Below.refl _ W).alloc (Nat.le_refl _) _)) (Kp5.of_below ((Below.refl _ W).alloc (Nat.le_refl _) _) hB1.size) ⟨⟨bW1.alloc _, hB1.alloc hB1.size _, by simp; omega⟩, hp.out⟩ ⟨W.heap.size, hl1, by rw [h1, h2]; exact hbox, by rw [h1, h2]⟩
  case body =>
    rintro l0 pre x a' W hl ⟨r, hr⟩ ⟨⟨bW1, hB1, hl1⟩, hp⟩ ⟨Bx, hBx, bX, rfl⟩ hlt
    have hrep1 := x.rep.below hS hB1
    have hft := x.fit
    have hsn := firstE_snoc (pre.map It.pair) (It.pair x) hp
    have hmp : (pre ++ [x]).map It.pair = pre.map It.pair ++ [It.pair x] := by simp
    rw [← hmp] at hsn
    replace hsn := Lib.hid hsn
    obtain ⟨⟨a1, c1, h1⟩, ⟨a2, c2, h2⟩⟩ := x.shapes
    have hF := Lib.hid (fun W hS hr => domFault S x.x x.va x.vk x.ah W hS hr hft)
    rw [h1, h2] at bX hF hrep1
    replace h1 := Lib.hid h1
    replace h2 := Lib.hid h2
    have cX0 := bX.cell (i := 0) rfl
    have cX1 := bX.cell (i := 1) rfl
    have cX2 := bX.cell (i := 2) rfl
    have cX3 := bX.cell (i := 3) rfl
    have cX4 := bX.cell (i := 4) rfl
    have hz1 := hB1.size
    clear hp hmp
    gi_wp2_with (fail)
    refine ⟨trivial, (fun h => by cases h), ?_⟩
    refine (CallsIn.inRound l0 (callsIn_wide.2 (hF.out W (fun b h => by have := hS b h; omega) hrep1))).mono ?_
    rintro e w1 ⟨rfl, hb1⟩
    have bW2 : Boxed w1 w.heap.size 24 (.int .i64 0) := (hb1.block _ bW1.lt).trans bW1
    have cW := bW2.cell
    have fW := bW2.frozen
    have hB2 := hB1.trans (hb1.mono hz1)
    have hl2 : w.heap.size + 2 ≤ w1.heap.size := by have := hb1.size; omega
    have hkf := kf_of_below (B := W0.heap.size) hb1
    have hkp := Kp5.of_below (n₁ := w.heap.size + 2) hb1 hz1
    change Hid (M3.firstE ((pre ++ [x]).map It.pair) = M3.oneE x.x (x.ah == 2)) at hsn
    generalize M3.oneE x.x (x.ah == 2) = z at *
    by_cases hz : z = 0
    · subst hz
      gi_wp2_with (fail)
      exact ⟨hkf, hkp, ⟨bW2, hB2, hl2⟩, hsn.out⟩
    · have hzb : (z == 0) = false := by simpa using hz
      gi_wp2_with (fail)
      exact ⟨hkf.trans ((KeepsOthers.setCell _ _ _).from _), ⟨by rw [hsn.out]; exact bW2.set _, hB2.setCell (p := ⟨w.heap.size, 0, none⟩) (Nat.le_refl _) _⟩, rfl, by rw [hsn.out]; exact hz⟩
  case done =>
    rintro D ys W hD rfl ⟨⟨bW1, hB1, hl1⟩, hp⟩ hK
    have hp2 := Lib.hid (hfirst.out.symm.trans hp)
    have hcr := bW1.cell
    have hfr := bW1.frozen
    clear hp
    gi_wp2
    have hK' := (KeepsOthers.setCell W ⟨w.heap.size, 0, none⟩ (.int .i64 0)).same D _ hK rfl
    refine ⟨by simp, .inl ⟨_, _, rfl, run_takeDeferred hK', ?_⟩⟩
    have hc5 := cell_kept (World.cell?_setCell_same' W ⟨w.heap.size, 0, none⟩ (.int .i64 0) (by rw [hcr]; rfl)) (grownBy_putObj' _ D (.deferred none)) (fun r e => by cases e; exact ⟨_, hK', rfl⟩)
    refine ⟨.int .i64 0, ?_, by rw [hp2.out], (hB1.setCell (p := ⟨w.heap.size, 0, none⟩) (Nat.le_refl _) _).trans (belowK_b (w := w) (Nat.le_refl _) _ D _ _ (by omega) hK' rfl rfl)⟩
    simp [results, Try.f14, go_sem, hc5]
  case stop =>
    rintro D c pre W hD hpre ⟨⟨bW1, hB1⟩, rfl, hne⟩ hK
    have hfe : M3.firstE (pre.map It.pair) = M3.mayE false l := by
      rw [← hfirst.out]
      exact (firstE_prefix (hpre.map It.pair) hne).symm
    rw [hfe] at bW1
    have hcr := bW1.cell
    clear hfe hne
    gi_wp2
    refine ⟨by simp, .inl ⟨_, _, rfl, run_takeDeferred hK, ?_⟩⟩
    have hc5 := cell_kept hcr (grownBy_putObj' _ D (.deferred none)) (fun r e => by cases e; exact ⟨_, hK, rfl⟩)
    refine ⟨.int .i64 (M3.mayE false l), ?_, rfl, hB1.trans (belowK_b (w := w) (Nat.le_refl _) W D _ _ (by omega) hK rfl rfl)⟩
    simp [results, Try.f14, go_sem, hc5]

theorem domMay (S : Nat → Prop) (v : Value) (l : List Nd) (w : World) (hS : ∀ b, S b → b < w.heap.size) (hr : RepN S w v l) (hf : FitN l) :
    Calls Try.prog 14 #[v] w fun e W' => e = .returned (.int .i64 (M3.mayE false l)) ∧ Below w.heap.size w W' :=
  callsIn_wide.1 (domMay_in 4 (by omega) S v l w hS hr hf)
theorem domWeight (S : Nat → Prop) (v : Value) (l : List Nd) (w : World) (hS : ∀ b, S b → b < w.heap.size) (hr : RepN S w v l) (hf : FitN l) (hw : M3.weight l ≤ 4611686018427387904) :
    Calls Try.prog 23 #[v] w fun e W' => e = .returned (.int .i64 (M3.weight l : Int)) ∧ Below w.heap.size w W' :=
  callsIn_wide.1 (domWeight_in 3 (by omega) S v l w hS hr hf hw)
end Go.Proofs.Ytjelmpajphajfaa

/- Layer 3's own example at the end of each law. -/
namespace Go.Proofs.Ytjelmpajphajfaa
open Go.RowKit

/-- The example's nodes. -/
def liveT : Nd := .mk 2 ⟨#[]⟩ [] ⟨#[120]⟩ []
def liveN : Nd := .mk 1 ⟨#[97]⟩ [⟨⟨#[105, 100]⟩, ⟨#[49]⟩⟩] ⟨#[]⟩ [liveT]
theorem live_fit : FitN [liveN] := by
  have h1 : M3.weight liveT.kids = 0 := by show M3.weight [] = 0; rw [M3.weight_nil]
  have h2 : M3.weight liveN.kids = 1 := by show M3.weight [liveT] = 1; rw [M3.weight_cons, h1, M3.weight_nil]; rfl
  refine fitN_cons.2 ⟨⟨by decide, by decide, ?_, by rw [h2]; decide⟩, fitN_cons.2 ⟨⟨by decide, by decide, ?_, by rw [h1]; decide⟩, fitN_nil, fitN_nil⟩, fitN_nil⟩
  · intro a ha; simp [liveN, Nd.attrs] at ha; subst ha; exact ⟨by decide, by decide⟩
  · intro a ha; simp [liveT, Nd.attrs] at ha
theorem live_weight : M3.weight [liveN] = 3 := by
  rw [M3.weight_cons, M3.weight_nil]
  show 1 + 1 + M3.weight [liveT] + 0 = 3
  rw [M3.weight_cons, M3.weight_nil]
  show 1 + 1 + (1 + 0 + M3.weight [] + 0) + 0 = 3
  rw [M3.weight_nil]
theorem isB_low (c : UInt8) (t : List UInt8) (h : c.toNat < 128) (h0 : c.toNat ≠ 0) (h13 : c.toNat ≠ 13) : M1.isB (c :: t) = M1.isB t := by
  rw [M1.isB_step _ (by simp), M2.dec_lo c t h]
  have h3 : c.toNat ≠ 65533 := by omega
  simp [h0, h13, h3]
theorem nilB_data (s : ByteArray) : M3.nilB s = s.data.toList.isEmpty := by unfold M3.nilB; rw [Lib.toList_data]
theorem mayE_ok {p : Bool} {x : Nd} {r : List Nd} (h1 : M3.oneE x p = 0) (h2 : M3.mayE false x.kids = 0) (h3 : M3.mayE (x.kind == 2) r = 0) : M3.mayE p (x :: r) = 0 := by
  rw [M3.mayE_cons]
  simp [h1, h2, h3]
theorem live_may : M3.mayE false [liveN] = 0 := by
  have e1 : M1.isB [120] = true := by rw [isB_low _ _ (by decide) (by decide) (by decide), M1.isB_nil]
  have e2 : M1.isB [105, 100] = true := by rw [isB_low _ _ (by decide) (by decide) (by decide), isB_low _ _ (by decide) (by decide) (by decide), M1.isB_nil]
  have e3 : M1.isB [49] = true := by rw [isB_low _ _ (by decide) (by decide) (by decide), M1.isB_nil]
  have t1 : M3.oneE liveT false = 0 := by
    show M3.oneE (.mk 2 ⟨#[]⟩ [] ⟨#[120]⟩ []) false = 0
    rw [M3.oneE_mk]
    have : M1.isB (⟨#[120]⟩ : ByteArray).data.toList = true := e1
    unfold M3.oneF M3.kindlyF M3.plainF
    rw [this, nilB_data, nilB_data]
    decide
  have a1 : M3.attributedB [105, 100] = true := by
    unfold M3.attributedB
    rw [e2]
    decide
  have n1 : M3.namesE [] [⟨⟨#[105, 100]⟩, ⟨#[49]⟩⟩] = 0 := by
    rw [M3.namesE]
    have : M3.attributedB (⟨#[105, 100]⟩ : ByteArray).data.toList = true := a1
    rw [this]
    rfl
  have v1 : M3.valuesE [⟨⟨#[105, 100]⟩, ⟨#[49]⟩⟩] = 0 := by
    rw [M3.valuesE]
    have : M1.isB (⟨#[49]⟩ : ByteArray).data.toList = true := e3
    rw [this]
    rfl
  have t2 : M3.oneE liveN false = 0 := by
    show M3.oneE (.mk 1 ⟨#[97]⟩ [⟨⟨#[105, 100]⟩, ⟨#[49]⟩⟩] ⟨#[]⟩ [liveT]) false = 0
    rw [M3.oneE_mk]
    unfold M3.oneF M3.elemF M3.kindlyF
    rw [n1, v1, nilB_data]
    rfl
  exact mayE_ok t2 (mayE_ok t1 (M3.mayE_nil _) (M3.mayE_nil _)) (M3.mayE_nil _)

theorem Row.fresh {S : Nat → Prop} {w : World} {g : Nat} {e : TypeId} {cs : List Value} {k n : Nat} (h : Box w g e cs) (hS : S g) (hn : cs.length = n * k) (hl : n ≤ 1000000) : Row S w k (.slice (some ⟨g, 0, none⟩) n n) n cs :=
  ⟨hn, _, n, rfl, Nat.le_refl _, by omega, (fun h => by cases h), fun _ => ⟨g, 0, rfl, hS, fun j u hu => by rw [Nat.zero_add]; exact h.cell hu⟩⟩

set_option maxHeartbeats 1000000 in
set_option maxRecDepth 100000 in
theorem lives03 (w : World) : Calls Try.prog 18 #[] w fun e w' => e = .returned (.bool true) ∧ Below w.heap.size w w' := by
  have b0 := ((Box.new w 44 [.string ⟨#[105, 100]⟩, .string ⟨#[49]⟩]).alloc (.cells #[.int .i64 2, .string ⟨#[]⟩, .slice none 0 0, .string ⟨#[120]⟩, .slice none 0 0] 28)).alloc (.cells #[.int .i64 1, .string ⟨#[97]⟩, .slice (some ⟨w.heap.size, 0, none⟩) 1 1, .string ⟨#[]⟩, .slice (some ⟨w.heap.size + 1, 0, none⟩) 1 1] 28)
  have b1 := (Box.new (w.alloc (.cells #[.string ⟨#[105, 100]⟩, .string ⟨#[49]⟩] 44)) 28 [.int .i64 2, .string ⟨#[]⟩, .slice none 0 0, .string ⟨#[120]⟩, .slice none 0 0]).alloc (.cells #[.int .i64 1, .string ⟨#[97]⟩, .slice (some ⟨w.heap.size, 0, none⟩) 1 1, .string ⟨#[]⟩, .slice (some ⟨w.heap.size + 1, 0, none⟩) 1 1] 28)
  have b2 := Box.new ((w.alloc (.cells #[.string ⟨#[105, 100]⟩, .string ⟨#[49]⟩] 44)).alloc (.cells #[.int .i64 2, .string ⟨#[]⟩, .slice none 0 0, .string ⟨#[120]⟩, .slice none 0 0] 28)) 28 [.int .i64 1, .string ⟨#[97]⟩, .slice (some ⟨w.heap.size, 0, none⟩) 1 1, .string ⟨#[]⟩, .slice (some ⟨w.heap.size + 1, 0, none⟩) 1 1]
  simp only [World.size_alloc] at b1 b2
  have hB : Below w.heap.size w (((w.alloc (.cells #[.string ⟨#[105, 100]⟩, .string ⟨#[49]⟩] 44)).alloc (.cells #[.int .i64 2, .string ⟨#[]⟩, .slice none 0 0, .string ⟨#[120]⟩, .slice none 0 0] 28)).alloc (.cells #[.int .i64 1, .string ⟨#[97]⟩, .slice (some ⟨w.heap.size, 0, none⟩) 1 1, .string ⟨#[]⟩, .slice (some ⟨w.heap.size + 1, 0, none⟩) 1 1] 28)) :=
    (((Below.refl _ w).alloc (Nat.le_refl _) _).alloc (by simp) _).alloc (by simp; omega) _
  go_enter Try.func18, Try.ntmps18
  go_wp2_with (fail)
  obtain ⟨W, hW⟩ : ∃ W, ((w.alloc (.cells #[.string ⟨#[105, 100]⟩, .string ⟨#[49]⟩] 44)).alloc (.cells #[.int .i64 2, .string ⟨#[]⟩, .slice none 0 0, .string ⟨#[120]⟩, .slice none 0 0] 28)).alloc (.cells #[.int .i64 1, .string ⟨#[97]⟩, .slice (some ⟨w.heap.size, 0, none⟩) 1 1, .string ⟨#[]⟩, .slice (some ⟨w.heap.size + 1, 0, none⟩) 1 1] 28) = W := ⟨_, rfl⟩
  change Box (((w.alloc (.cells #[.string ⟨#[105, 100]⟩, .string ⟨#[49]⟩] 44)).alloc (.cells #[.int .i64 2, .string ⟨#[]⟩, .slice none 0 0, .string ⟨#[120]⟩, .slice none 0 0] 28)).alloc (.cells #[.int .i64 1, .string ⟨#[97]⟩, .slice (some ⟨w.heap.size, 0, none⟩) 1 1, .string ⟨#[]⟩, .slice (some ⟨w.heap.size + 1, 0, none⟩) 1 1] 28)) _ _ _ at b0 b1 b2
  rw [hW] at b0 b1 b2 hB ⊢
  clear hW
  have hR : RepN (fun b => b < W.heap.size) W (.slice (some ⟨w.heap.size + 1 + 1, 0, none⟩) 1 1) [liveN] := by
    refine ⟨_, Row.fresh b2 b2.lt rfl (by decide), RepC.cons_iff.2 ⟨_, _, _, rfl, Row.fresh b0 b0.lt rfl (by decide), ⟨_, Row.fresh b1 b1.lt rfl (by decide), ?_⟩, RepC.nil _ _⟩⟩
    exact RepC.cons_iff.2 ⟨_, _, _, rfl, Row.nil _ _ _, RepN.nil _ _, RepC.nil _ _⟩
  have hWt := Lib.hid (domWeight _ _ _ W (fun b h => h) hR live_fit (by rw [live_weight]; decide))
  have hMy := Lib.hid (fun W' hS hR => domMay (fun b => b < W.heap.size) (.slice (some ⟨w.heap.size + 1 + 1, 0, none⟩) 1 1) [liveN] W' hS hR live_fit)
  rw [live_weight] at hWt
  rw [live_may] at hMy
  refine hWt.out.mono ?_
  rintro e w1 ⟨rfl, hb1⟩
  have hR1 := hR.below (fun b h => h) hb1
  clear b0 b1 b2 hWt
  go_wp2_with (fail)
  refine (hMy.out w1 (fun b h => by have := hb1.size; omega) hR1).mono ?_
  rintro e w2 ⟨rfl, hb2⟩
  have hv : M3.voidB [98, 114] = true := by decide
  have hrw : M3.rawB [115, 116, 121, 108, 101] = true := by decide
  have hVd := Lib.hid (domVoid ⟨#[98, 114]⟩)
  have hRw := Lib.hid (domRaw ⟨#[115, 116, 121, 108, 101]⟩)
  go_wp2_with (fail)
  refine (hVd.out _).mono ?_
  rintro e w3 ⟨rfl, hw3⟩
  rw [hw3]
  clear hw3 w3
  go_wp2_with (fail)
  refine (hRw.out _).mono ?_
  rintro e w3 ⟨rfl, hw3⟩
  rw [hw3]
  clear hw3 w3
  go_wp2
  go_ret
  exact ⟨rfl, (hB.trans (hb1.mono hB.size)).trans (hb2.mono (by have := hb1.size; have := hB.size; omega))⟩
end Go.Proofs.Ytjelmpajphajfaa

/- Layer 4's own example at the end of each law. -/
namespace Go.Proofs.Ytjelmpajphajfaa
open Go.RowKit

def live4T : Nd := .mk 2 ⟨#[]⟩ [] ⟨#[49, 32, 60, 32, 50]⟩ []
def live4N : Nd := .mk 1 ⟨#[97]⟩ [⟨⟨#[104, 114, 101, 102]⟩, ⟨#[120, 38, 121]⟩⟩] ⟨#[]⟩ [live4T]
theorem live4_fit : FitN [live4N] := by
  have h1 : M3.weight live4T.kids = 0 := by show M3.weight [] = 0; rw [M3.weight_nil]
  have h2 : M3.weight live4N.kids = 1 := by show M3.weight [live4T] = 1; rw [M3.weight_cons, h1, M3.weight_nil]; rfl
  refine fitN_cons.2 ⟨⟨by decide, by decide, ?_, by rw [h2]; decide⟩, fitN_cons.2 ⟨⟨by decide, by decide, ?_, by rw [h1]; decide⟩, fitN_nil, fitN_nil⟩, fitN_nil⟩
  · intro a ha; simp [live4N, Nd.attrs] at ha; subst ha; exact ⟨by decide, by decide⟩
  · intro a ha; simp [live4T, Nd.attrs] at ha
theorem live4_text : M4.textB false [live4N] = [60, 97, 32, 104, 114, 101, 102, 61, 34, 120, 38, 97, 109, 112, 59, 121, 34, 62, 49, 32, 38, 108, 116, 59, 32, 50, 60, 47, 97, 62] := by
  rw [M4.textB_cons, M4.textB_nil, M4.oneB_1 rfl]
  have : M4.innerB (M3.voidB live4N.name.data.toList) (M3.rawB live4N.name.data.toList) live4N.kids = M4.textB false [live4T] := rfl
  rw [this, M4.textB_cons, M4.textB_nil, M4.oneB_2 rfl]
  decide
theorem live4_plain : M4.plainT [live4N] = [49, 32, 60, 32, 50] := by
  rw [M4.plainT_cons, M4.plainT_nil]
  have : M4.plain1 live4N = M4.plainT [live4T] := rfl
  rw [this, M4.plainT_cons, M4.plainT_nil]
  have : M4.plain1 live4T = [49, 32, 60, 32, 50] ++ M4.plainT [] := rfl
  rw [this, M4.plainT_nil]
  rfl

set_option maxHeartbeats 1000000 in
set_option maxRecDepth 100000 in
theorem lives04 (w : World) : Calls Try.prog 33 #[] w fun e w' => e = .returned (.bool true) ∧ Below w.heap.size w w' := by
  have b0 := ((Box.new w 44 [.string ⟨#[104, 114, 101, 102]⟩, .string ⟨#[120, 38, 121]⟩]).alloc (.cells #[.int .i64 2, .string ⟨#[]⟩, .slice none 0 0, .string ⟨#[49, 32, 60, 32, 50]⟩, .slice none 0 0] 28)).alloc (.cells #[.int .i64 1, .string ⟨#[97]⟩, .slice (some ⟨w.heap.size, 0, none⟩) 1 1, .string ⟨#[]⟩, .slice (some ⟨w.heap.size + 1, 0, none⟩) 1 1] 28)
  have b1 := (Box.new (w.alloc (.cells #[.string ⟨#[104, 114, 101, 102]⟩, .string ⟨#[120, 38, 121]⟩] 44)) 28 [.int .i64 2, .string ⟨#[]⟩, .slice none 0 0, .string ⟨#[49, 32, 60, 32, 50]⟩, .slice none 0 0]).alloc (.cells #[.int .i64 1, .string ⟨#[97]⟩, .slice (some ⟨w.heap.size, 0, none⟩) 1 1, .string ⟨#[]⟩, .slice (some ⟨w.heap.size + 1, 0, none⟩) 1 1] 28)
  have b2 := Box.new ((w.alloc (.cells #[.string ⟨#[104, 114, 101, 102]⟩, .string ⟨#[120, 38, 121]⟩] 44)).alloc (.cells #[.int .i64 2, .string ⟨#[]⟩, .slice none 0 0, .string ⟨#[49, 32, 60, 32, 50]⟩, .slice none 0 0] 28)) 28 [.int .i64 1, .string ⟨#[97]⟩, .slice (some ⟨w.heap.size, 0, none⟩) 1 1, .string ⟨#[]⟩, .slice (some ⟨w.heap.size + 1, 0, none⟩) 1 1]
  simp only [World.size_alloc] at b1 b2
  have hB : Below w.heap.size w (((w.alloc (.cells #[.string ⟨#[104, 114, 101, 102]⟩, .string ⟨#[120, 38, 121]⟩] 44)).alloc (.cells #[.int .i64 2, .string ⟨#[]⟩, .slice none 0 0, .string ⟨#[49, 32, 60, 32, 50]⟩, .slice none 0 0] 28)).alloc (.cells #[.int .i64 1, .string ⟨#[97]⟩, .slice (some ⟨w.heap.size, 0, none⟩) 1 1, .string ⟨#[]⟩, .slice (some ⟨w.heap.size + 1, 0, none⟩) 1 1] 28)) :=
    (((Below.refl _ w).alloc (Nat.le_refl _) _).alloc (by simp) _).alloc (by simp; omega) _
  go_enter Try.func33, Try.ntmps33
  go_wp2_with (fail)
  obtain ⟨W, hW⟩ : ∃ W, ((w.alloc (.cells #[.string ⟨#[104, 114, 101, 102]⟩, .string ⟨#[120, 38, 121]⟩] 44)).alloc (.cells #[.int .i64 2, .string ⟨#[]⟩, .slice none 0 0, .string ⟨#[49, 32, 60, 32, 50]⟩, .slice none 0 0] 28)).alloc (.cells #[.int .i64 1, .string ⟨#[97]⟩, .slice (some ⟨w.heap.size, 0, none⟩) 1 1, .string ⟨#[]⟩, .slice (some ⟨w.heap.size + 1, 0, none⟩) 1 1] 28) = W := ⟨_, rfl⟩
  change Box (((w.alloc (.cells #[.string ⟨#[104, 114, 101, 102]⟩, .string ⟨#[120, 38, 121]⟩] 44)).alloc (.cells #[.int .i64 2, .string ⟨#[]⟩, .slice none 0 0, .string ⟨#[49, 32, 60, 32, 50]⟩, .slice none 0 0] 28)).alloc (.cells #[.int .i64 1, .string ⟨#[97]⟩, .slice (some ⟨w.heap.size, 0, none⟩) 1 1, .string ⟨#[]⟩, .slice (some ⟨w.heap.size + 1, 0, none⟩) 1 1] 28)) _ _ _ at b0 b1 b2
  rw [hW] at b0 b1 b2 hB ⊢
  clear hW
  have hR : RepN (fun b => b < W.heap.size) W (.slice (some ⟨w.heap.size + 1 + 1, 0, none⟩) 1 1) [live4N] := by
    refine ⟨_, Row.fresh b2 b2.lt rfl (by decide), RepC.cons_iff.2 ⟨_, _, _, rfl, Row.fresh b0 b0.lt rfl (by decide), ⟨_, Row.fresh b1 b1.lt rfl (by decide), ?_⟩, RepC.nil _ _⟩⟩
    exact RepC.cons_iff.2 ⟨_, _, _, rfl, Row.nil _ _ _, RepN.nil _ _, RepC.nil _ _⟩
  have hWt := Lib.hid (writeTextOf _ _ _ W (fun b h => h) hR live4_fit (by rw [live4_text]; decide))
  have hMy := Lib.hid (fun W' hS hR => writePlain (fun b => b < W.heap.size) (.slice (some ⟨w.heap.size + 1 + 1, 0, none⟩) 1 1) [live4N] W' hS hR live4_fit (by rw [live4_plain]; decide))
  rw [live4_text] at hWt
  rw [live4_plain] at hMy
  refine hWt.out.mono ?_
  rintro e w1 ⟨rfl, hb1⟩
  have hR1 := hR.below (fun b h => h) hb1
  clear b0 b1 b2 hWt
  go_wp2_with (fail)
  refine (hMy.out w1 (fun b h => by have := hb1.size; omega) hR1).mono ?_
  rintro e w2 ⟨rfl, hb2⟩
  go_wp2
  go_ret
  exact ⟨rfl, (hB.trans (hb1.mono hB.size)).trans (hb2.mono (by have := hb1.size; have := hB.size; omega))⟩
end Go.Proofs.Ytjelmpajphajfaa

/- The document's answers of layer 2: names, digits, numbers, the reference at the beginning. -/
namespace Go.Proofs.Ytjelmpajphajfaa
open Go.RowKit

def namesV : List Value := M2.tbl.map fun p => .string ⟨p.1.toArray⟩
def codesV : List Value := M2.tbl.map fun p => .int .i64 (p.2 : Int)

/-- A digit of a base, as it is told there. -/
def digN (b : Nat) (r : Int) : Int := if (b : Int) ≤ M2.digZ r then -1 else M2.digZ r

theorem digN_no {b : Nat} {c : UInt8} (h : M2.isD b c = false) : digN b c.toNat < 0 := by
  unfold digN
  have := M2.isD_no h
  split <;> omega
theorem digN_yes {b : Nat} {c : UInt8} (h : M2.isD b c = true) : digN b c.toNat = M2.digZ c.toNat ∧ 0 ≤ digN b c.toNat ∧ digN b c.toNat < b := by
  unfold M2.isD at h
  have := of_decide_eq_true h
  unfold digN
  rw [if_neg (by omega)]
  omega

/-- What a call answers of a number that may be none. -/
def ansB (o : Option Int) : Value := .tuple #[.int .i64 (o.getD 0), .bool o.isSome]
theorem ansB_mk (o : Option Int) : ∃ x y, ansB o = .tuple #[.int .i64 x, .bool y] := ⟨_, _, rfl⟩


end Go.Proofs.Ytjelmpajphajfaa

/- The document's answers of layer 2, the rest: the reference at the beginning, texts decoded, texts written. -/
namespace Go.Proofs.Ytjelmpajphajfaa
open Go.RowKit

/-- What a call answers of a reference, in numbers. -/
def ansI (o : Option (Int × Nat)) : Value := .tuple #[.int .i64 ((o.map (·.1)).getD 0), .int .i64 (((o.map (·.2)).getD 0 : Nat) : Int)]
theorem ansI_none : ansI none = .tuple #[.int .i64 0, .int .i64 0] := rfl
theorem ansI_some (r : Int) (n : Nat) : ansI (some (r, n)) = .tuple #[.int .i64 r, .int .i64 (n : Int)] := rfl
theorem ansB_none : ansB none = .tuple #[.int .i64 0, .bool false] := rfl
theorem ansB_some (r : Int) : ansB (some r) = .tuple #[.int .i64 r, .bool true] := rfl
theorem ne_byte {c d : UInt8} (h : c ≠ d) : ((c.toNat : Int) == (d.toNat : Int)) = false := by
  simp only [beq_eq_false_iff_ne]
  intro e
  exact h (UInt8.toNat_inj.1 (by omega))

theorem own_get (o : ByteArray) (k : Nat) (h : k < o.size) : o.data.toList[k]? = some o[k] := List.getElem?_eq_getElem (l := o.data.toList) h
theorem own_list (o : ByteArray) : o.data.toList.length = o.size := rfl
theorem own_two (o : ByteArray) (h : 1 < o.size) : ∃ t, o.data.toList = o[0] :: o[1] :: t := by
  have h0 := own_get o 0 (by omega)
  have h1 := own_get o 1 h
  generalize o.data.toList = l at *
  match l, h0, h1 with
  | a :: b :: t, h0, h1 =>
    simp at h0 h1
    exact ⟨t, by rw [h0, h1]⟩
theorem own_one (o : ByteArray) (h : 0 < o.size) : ∃ t, o.data.toList = o[0] :: t := by
  have h0 := own_get o 0 h
  generalize o.data.toList = l at *
  match l, h0 with
  | a :: t, h0 =>
    simp at h0
    exact ⟨t, by rw [h0]⟩
theorem ownB_16 (o : ByteArray) (h : 1 < o.size) (h0 : o[0] = 35) (h1 : o[1] = 120 ∨ o[1] = 88) : M2.ownB o.data.toList = M2.numR 16 6 (o.extract 2 o.size).data.toList := by
  obtain ⟨t, ht⟩ := own_two o h
  rw [extract_end, ht, M2.ownB, if_pos]
  rw [h0]
  rcases h1 with h1 | h1
  · left; rw [h1]; rfl
  · right; rw [h1]; rfl
theorem ownB_10 (o : ByteArray) (h : 1 < o.size) (h0 : o[0] = 35) (h1 : ¬ o[1] = 120) (h2 : ¬ o[1] = 88) : M2.ownB o.data.toList = M2.numR 10 7 (o.extract 1 o.size).data.toList := by
  obtain ⟨t, ht⟩ := own_two o h
  rw [extract_end, ht, M2.ownB, if_neg, if_pos]
  · rw [h0]; rfl
  · simp [h1, h2]
theorem ownB_10' (o : ByteArray) (h : o.size = 1) (h0 : o[0] = 35) : M2.ownB o.data.toList = M2.numR 10 7 (o.extract 1 o.size).data.toList := by
  obtain ⟨t, ht⟩ := own_one o (by omega)
  have hl := own_list o
  rw [ht] at hl
  have : t = [] := List.eq_nil_of_length_eq_zero (by simp at hl; omega)
  subst this
  rw [extract_end, ht, M2.ownB, if_neg (by simp), if_pos]
  rw [h0]; rfl
theorem ownB_nm (o : ByteArray) (h : 0 < o.size) (h0 : ¬ o[0] = 35) : M2.ownB o.data.toList = (M2.nm o.data.toList).map Int.ofNat := by
  obtain ⟨t, ht⟩ := own_one o h
  rw [ht, M2.ownB, if_neg, if_neg]
  · simp [h0]
  · cases t <;> simp [h0]
theorem ownB_nm0 (o : ByteArray) (h : o.size = 0) : M2.ownB o.data.toList = (M2.nm o.data.toList).map Int.ofNat := by
  have : o.data.toList = [] := List.eq_nil_of_length_eq_zero h
  rw [this]
  rfl
theorem byte_of {c : UInt8} {n : Nat} (h : (c.toNat : Int) = n) (hn : n < 256) : c = n.toUInt8 := by
  apply UInt8.toNat_inj.1
  rw [M1.toNat_u8 n hn]
  omega
theorem byte_no {c : UInt8} {n : Nat} (h : ¬ (c.toNat : Int) = n) (hn : n < 256) : ¬ c = n.toUInt8 := by
  rintro rfl
  rw [M1.toNat_u8 n hn] at h
  exact h rfl

/-- What is answered where the first ; is at place k. -/
def resI (k : Nat) : Option Int → Value
  | none => .tuple #[.int .i64 0, .int .i64 0]
  | some r => .tuple #[.int .i64 r, .int .i64 ((k : Int) + 1)]


end Go.Proofs.Ytjelmpajphajfaa

/- The document's answers of layer 2, the rest: texts decoded, texts written. -/
namespace Go.Proofs.Ytjelmpajphajfaa
open Go.RowKit

theorem cat_mk (a : List UInt8) (b : ByteArray) : (⟨a.toArray⟩ : ByteArray) ++ b = ⟨(a ++ b.data.toList).toArray⟩ := by
  apply ByteArray.ext
  simp
theorem str_val {a b : ByteArray} (h : a = b) : Value.string a = .string b := by rw [h]

theorem dec_step (l : List UInt8) (k : Nat) (h : k < l.length) : M2.decode (l.drop k) = match M2.one (l.drop k) with | none => l[k] :: M2.decode (l.drop (k + 1)) | some p => M1.enc p.1 ++ M2.decode (l.drop (k + p.2)) := by
  cases ho : M2.one (l.drop k) with
  | none =>
    have e : l.drop k = l[k] :: l.drop (k + 1) := List.drop_eq_getElem_cons h
    rw [e] at ho ⊢
    exact M2.decode_byte ho
  | some p =>
    obtain ⟨r, n⟩ := p
    rw [M2.decode_ref ho, List.drop_drop]

set_option maxHeartbeats 4000000 in
set_option maxRecDepth 100000 in
theorem ref02Escape (s : ByteArray) (v : Bool) (w : World) (hs : s.size ≤ 1073741824) :
    Calls Try.prog 41 #[.string s, .bool v] w fun e w' => e = .returned (.string ⟨(M2.escape v s.data.toList).toArray⟩) ∧ w' = w := by
  go_enter Try.func41, Try.ntmps41
  go_wp2
  go_loop [5, 6] (fun o i => ∃ k : Nat, k ≤ s.size ∧ i = .int .i64 k ∧ o = .string ⟨(M2.escape v (s.data.toList.take k)).toArray⟩) (fun _ i => s.size - (intOf i).toNat)
  case atStart => exact ⟨0, by omega, rfl, rfl⟩
  case round =>
    obtain ⟨k, hk, rfl, rfl⟩ := hrel
    by_cases hlt : k < s.size
    · have htk : M2.escape v (s.data.toList.take (k + 1)) = M2.escape v (s.data.toList.take k) ++ M2.esc v s[k] := by
        rw [show s.data.toList.take (k + 1) = s.data.toList.take k ++ [s[k]] from List.take_succ_eq_append_getElem (l := s.data.toList) hlt, M2.escape_append]
        simp [M2.escape]
      have hx1 : (s.extract k (k + 1)).data.toList = [s[k]] := by
        rw [Lib.extract_data, show s.data.toList.drop k = s[k] :: s.data.toList.drop (k + 1) from List.drop_eq_getElem_cons hlt]
        simp
      have hlen := M2.escape_len v (s.data.toList.take k)
      have hle1 : (s.data.toList.take k).length ≤ k := List.length_take_le _ _
      have fin : ∀ (add : ByteArray), M2.esc v s[k] = add.data.toList → (⟨(M2.escape v (s.data.toList.take k)).toArray⟩ : ByteArray) ++ add = ⟨(M2.escape v (s.data.toList.take (k + 1))).toArray⟩ := by
        intro add h
        rw [htk, h, cat_mk]
      replace fin := Lib.hid fin
      clear htk
      by_cases h38 : s[k] = 38
      · have F := Lib.hid (fin.out ⟨#[38, 97, 109, 112, 59]⟩ (by rw [h38]; rfl))
        clear fin hx1
        go_wp2
        go_round
        case rel => exact ⟨k + 1, by omega, by go_num, str_val F.out⟩
        case measure => simp [intOf]; omega
      have h38b : ((s[k].toNat : Int) == 38) = false := ne_byte (d := 38) h38
      by_cases h60 : s[k] = 60
      · have F := Lib.hid (fin.out ⟨#[38, 108, 116, 59]⟩ (by rw [h60]; rfl))
        clear fin hx1 h38
        go_wp2
        go_round
        case rel => exact ⟨k + 1, by omega, by go_num, str_val F.out⟩
        case measure => simp [intOf]; omega
      have h60b : ((s[k].toNat : Int) == 60) = false := ne_byte (d := 60) h60
      by_cases h62 : s[k] = 62
      · have F := Lib.hid (fin.out ⟨#[38, 103, 116, 59]⟩ (by rw [h62]; rfl))
        clear fin hx1 h38 h60
        go_wp2
        go_round
        case rel => exact ⟨k + 1, by omega, by go_num, str_val F.out⟩
        case measure => simp [intOf]; omega
      have h62b : ((s[k].toNat : Int) == 62) = false := ne_byte (d := 62) h62
      by_cases h34 : s[k] = 34
      · cases v
        · have F := Lib.hid (fin.out (s.extract k (k + 1)) (by rw [hx1, h34]; rfl))
          clear fin hx1 h38 h60 h62
          go_wp2
          go_round
          case rel => exact ⟨k + 1, by omega, by go_num, str_val F.out⟩
          case measure => simp [intOf]; omega
        · have F := Lib.hid (fin.out ⟨#[38, 113, 117, 111, 116, 59]⟩ (by rw [h34]; rfl))
          clear fin hx1 h38 h60 h62
          go_wp2
          go_round
          case rel => exact ⟨k + 1, by omega, by go_num, str_val F.out⟩
          case measure => simp [intOf]; omega
      have h34b : ((s[k].toNat : Int) == 34) = false := ne_byte (d := 34) h34
      have F := Lib.hid (fin.out (s.extract k (k + 1)) (by rw [hx1, M2.esc, if_neg h38, if_neg h60, if_neg h62, if_neg (fun e => h34 e.1)]))
      clear fin hx1 h38 h60 h62 h34
      go_wp2
      go_round
      case rel => exact ⟨k + 1, by omega, by go_num, str_val F.out⟩
      case measure => simp [intOf]; omega
    · obtain rfl : k = s.size := by omega
      have ht : s.data.toList.take s.size = s.data.toList := List.take_of_length_le (Nat.le_refl _)
      replace ht := Lib.hid ht
      clear hlt
      go_wp2
      go_ret
      rw [ht.out]
      exact ⟨rfl, rfl⟩
end Go.Proofs.Ytjelmpajphajfaa

/- The reference of layer 4: an element's beginning, a node, texts. -/
namespace Go.Proofs.Ytjelmpajphajfaa
open Go.RowKit

def TxtPost (out : List UInt8) (w : World) (e : Ending) (w' : World) : Prop := e = .returned (.string ⟨out.toArray⟩) ∧ Below w.heap.size w w'
theorem cat_two (a b : List UInt8) : (⟨a.toArray⟩ : ByteArray) ++ (⟨b.toArray⟩ : ByteArray) = ⟨(a ++ b).toArray⟩ := by rw [cat_mk]

set_option maxHeartbeats 4000000 in
set_option maxRecDepth 100000 in
theorem ref04Open (S : Nat → Prop) (x : Nd) (va vk : Value) (w : World) (hS : ∀ b, S b → b < w.heap.size) (hx : RepV S w x va vk) (hf : Fit1 x) :
    Calls Try.prog 36 #[x.val va vk] w (TxtPost (M4.openB x) w) := by
  obtain ⟨a1, e1, rfl⟩ := hx.at_.slice
  obtain ⟨a2, e2, rfl⟩ := hx.kids.slice
  obtain ⟨_, hlc, hcm⟩ := hx.at_.len
  have b0 : Below w.heap.size w (w.alloc (.cells (x.cells (.slice a1 x.attrs.length e1) (.slice a2 x.kids.length e2)).toArray 28)) := (Below.refl _ w).alloc (Nat.le_refl _) _
  have hz0 : (w.alloc (.cells (x.cells (.slice a1 x.attrs.length e1) (.slice a2 x.kids.length e2)).toArray 28)).heap.size = w.heap.size + 1 := by simp
  have hbx := Box.new w 28 (x.cells (.slice a1 x.attrs.length e1) (.slice a2 x.kids.length e2))
  by_cases k1 : x.kind = 1
  · have e0 : M4.openB x = M4.headB x.name x.attrs := by unfold M4.openB; rw [if_pos k1]
    rw [e0]
    clear e0
    have k1b : (x.kind != 1) = false := by simpa using k1
    replace k1 := Lib.hid k1
    have hat := Lib.hid (fun (W : World) (hW : Below w.heap.size w W) => hx.at_.keep (w' := W) (fun b h => hW.block b (hS b h)))
    have hfa := Lib.hid hf.2.2.1
    have hln := hf.1
    have hlw := hf.2.2.2
    have hal := M4.attsB_len x.attrs hf.2.2.1
    clear hx hf
    cases x with | mk k n ats t ks =>
    simp only [Nd.kind, Nd.name, Nd.text, Nd.attrs, Nd.kids, Nd.val] at *
    replace hz0 := Lib.hid hz0
    go_enter Try.func36, Try.ntmps36
    go_wp2_with fail
    go_loopw [3, 4] (fun u3 u4 wr => ∃ (i : Nat) (o : ByteArray), i ≤ ats.length ∧ u4 = .int .i64 (i : Int) ∧ u3 = .string o ∧ o.data.toList = 60 :: n.data.toList ++ M4.attsB (ats.take i) ∧ Below (w.heap.size + 1) (w.alloc (.cells #[.int .i64 k, .string n, .slice a1 ats.length e1, .string t, .slice a2 ks.length e2] 28)) wr) (fun _ u4 _ => ats.length - (intOf u4).toNat)
    case atStart => exact ⟨0, _, by omega, rfl, rfl, by rw [List.take_zero]; simp [M4.attsB], Below.refl _ _⟩
    case round =>
      obtain ⟨i, o, hi, rfl, rfl, ho, hb⟩ := hrel
      have hbx1 := hbx.below hb (by omega)
      have d2 := hbx1.cell (i := 2) rfl
      have hbw : Below w.heap.size w wr := b0.trans (hb.mono (by omega))
      have hpre := M4.attsB_prefix ats i
      have hos : o.size = 1 + n.size + (M4.attsB (ats.take i)).length := by
        show o.data.toList.length = _
        rw [ho]; simp; show n.size + _ + 1 = _; omega
      by_cases hlt : i < ats.length
      · obtain ⟨b, off, rfl, hSb, q0, q1⟩ := (hat.out wr hbw).atA i hlt
        have hbl := hS b hSb
        obtain ⟨hfn, hfv⟩ := hfa.out _ (List.getElem_mem hlt)
        have htk := M4.attsB_take ats i hlt
        have hEs := Lib.hid (fun W => ref02Escape ats[i].value true W (by omega))
        have hel := M2.escape_len true ats[i].value.data.toList
        have hel2 : ats[i].value.data.toList.length = ats[i].value.size := rfl
        have fin : Hid ((o ++ ⟨#[32]⟩ ++ ats[i].name ++ ⟨#[61, 34]⟩ ++ ⟨(M2.escape true ats[i].value.data.toList).toArray⟩ ++ ⟨#[34]⟩ : ByteArray).data.toList = 60 :: n.data.toList ++ M4.attsB (ats.take (i + 1))) := by
          show _ = _
          rw [htk, M4.attB]
          simp [ho]
        generalize hA2 : M4.attsB (ats.take (i + 1)) = A2 at *
        replace hA2 := Lib.hid hA2
        generalize ats[i].name = nm at *
        generalize ats[i].value = vl at *
        replace ho := Lib.hid ho
        replace htk := Lib.hid htk
        have hes : (⟨(M2.escape true vl.data.toList).toArray⟩ : ByteArray).size ≤ 1610612736 := by show (M2.escape true vl.data.toList).length ≤ _; omega
        generalize (⟨(M2.escape true vl.data.toList).toArray⟩ : ByteArray) = ev at *
        clear hel hel2
        have hI0 : (i : Int) < (ats.length : Int) := by omega
        have hI1 : (0 : Int) ≤ (i : Int) := by omega
        go_wp2_with fail
        go_quiet ((go_at_call 41; exact Calls.quiet_of_same (hEs.out _)))
        go_wp2_with fail
        go_roundw
        case rel => exact ⟨i + 1, _, by omega, by go_num, rfl, by rw [hA2.out]; exact fin.out, below_drewN hb _⟩
        case measure => exact wr_meas hlt
      · obtain rfl : i = ats.length := by omega
        rw [List.take_length] at ho hos
        have fin : Hid ((o ++ ⟨#[62]⟩ : ByteArray) = ⟨(M4.headB n ats).toArray⟩) := by
          show _ = _
          apply ByteArray.ext
          apply Array.ext'
          simp [ho, M4.headB]
        replace ho := Lib.hid ho
        go_wp2_with fail
        go_ret
        exact ⟨by rw [fin.out]; rfl, hbw⟩
  · have e0 : M4.openB x = [] := by unfold M4.openB; rw [if_neg k1]
    rw [e0]
    have k1b : (x.kind != 1) = true := by simpa using k1
    replace k1 := Lib.hid k1
    clear e0
    replace b0 := Lib.hid b0
    go_enter Try.func36, Try.ntmps36
    go_wp2_with fail
    go_ret
    exact ⟨rfl, b0.out⟩

theorem weight_mem' {x : Nd} {l : List Nd} (h : x ∈ l) : 1 + M3.weight x.kids ≤ M3.weight l := by
  have := weight_mem h
  omega
theorem str_two (a : List UInt8) (o : ByteArray) (h : o.data.toList = a) : o = ⟨a.toArray⟩ := by
  subst h
  cases o
  simp
set_option maxHeartbeats 8000000 in
set_option maxRecDepth 100000 in
theorem ref04one (wt : Nat) : ∀ (S : Nat → Prop) (x : Nd) (va vk : Value) (raw : Bool) (w : World), 1 + M3.weight x.kids < wt → (∀ b, S b → b < w.heap.size) → RepV S w x va vk → Fit1 x → FitN x.kids → (M4.oneB raw x).length ≤ 70368744177664 →
    Calls Try.prog 59 #[x.val va vk, .bool raw] w (TxtPost (M4.oneB raw x) w) := by
  induction wt with
  | zero => intro S x va vk raw w h; omega
  | succ wt ih =>
  intro S x va vk raw w hwt hS hx hf hfk hl
  have hOp := Lib.hid (fun W (hW : Below w.heap.size w W) => ref04Open S x va vk W (fun b h => Nat.lt_of_lt_of_le (hS b h) hW.size) (hx.keep (fun b h => hW.block b (hS b h))) hf)
  obtain ⟨a1, e1, rfl⟩ := hx.at_.slice
  obtain ⟨a2, e2, rfl⟩ := hx.kids.slice
  have b0 : Below w.heap.size w (w.alloc (.cells (x.cells (.slice a1 x.attrs.length e1) (.slice a2 x.kids.length e2)).toArray 28)) := (Below.refl _ w).alloc (Nat.le_refl _) _
  have hz0 : (w.alloc (.cells (x.cells (.slice a1 x.attrs.length e1) (.slice a2 x.kids.length e2)).toArray 28)).heap.size = w.heap.size + 1 := by simp
  have hbx := Box.new w 28 (x.cells (.slice a1 x.attrs.length e1) (.slice a2 x.kids.length e2))
  have hts := hf.2.1
  have hns := hf.1
  have hlw := hf.2.2.2
  replace ih := Lib.hid ih
  by_cases k3 : x.kind = 3
  · have e0 := M4.oneB_3 (raw := raw) k3
    have fin : Hid ((⟨#[60, 33, 45, 45]⟩ ++ x.text ++ ⟨#[45, 45, 62]⟩ : ByteArray) = ⟨(M4.oneB raw x).toArray⟩) := by
      refine str_two _ _ ?_
      rw [e0, M4.commB]; simp
    have k3b : (x.kind == 3) = true := by simpa using k3
    replace k3 := Lib.hid k3
    replace b0 := Lib.hid b0
    clear hOp e0 hbx hx hf
    go_enter Try.func59, Try.ntmps59
    go_wp2_with fail
    go_ret
    exact ⟨by rw [fin.out]; rfl, b0.out⟩
  have k3b : (x.kind == 3) = false := by simpa using k3
  by_cases k2 : x.kind = 2
  · have e0 := M4.oneB_2 (raw := raw) k2
    have k2b : (x.kind == 2) = true := by simpa using k2
    have hEs := Lib.hid (fun W => ref02Escape x.text false W (by omega))
    replace k2 := Lib.hid k2
    replace b0 := Lib.hid b0
    replace e0 := Lib.hid e0
    clear hOp hbx hx hf k3
    cases raw
    · go_enter Try.func59, Try.ntmps59
      go_wp2_with fail
      refine (hEs.out _).mono ?_
      rintro e w1 ⟨rfl, rfl⟩
      go_wp2_with fail
      go_ret
      exact ⟨by rw [e0.out]; rfl, b0.out⟩
    · go_enter Try.func59, Try.ntmps59
      go_wp2_with fail
      go_ret
      exact ⟨by rw [e0.out, show M4.charsB true x.text = x.text.data.toList from rfl, ← str_two _ x.text rfl]; rfl, b0.out⟩
  have k2b : (x.kind == 2) = false := by simpa using k2
  by_cases k1 : x.kind = 1
  · have e0 := M4.oneB_1 (raw := raw) k1
    have k1b : (x.kind != 1) = false := by simpa using k1
    have eop : M4.openB x = M4.headB x.name x.attrs := by unfold M4.openB; rw [if_pos k1]
    rw [eop] at hOp
    rw [e0] at hl ⊢
    have hkd := hx.kids
    clear e0 eop hf hx k2 k3
    replace k1 := Lib.hid k1
    cases x with | mk k n ats t ks =>
    simp only [Nd.kind, Nd.name, Nd.text, Nd.attrs, Nd.kids, Nd.val] at hwt hkd hfk hl hOp b0 hbx hz0 hlw hns hts k1b k2b k3b ⊢
    go_enter Try.func59, Try.ntmps59
    go_wp2_with fail
    refine (ref03Void _ _).mono ?_
    rintro e w1 ⟨rfl, rfl⟩
    cases hvd : M3.voidB n.data.toList
    · rw [hvd, M4.innerB_no] at hl
      go_wp2_with fail
      refine (ref03Raw _ _).mono ?_
      rintro e w1 ⟨rfl, rfl⟩
      have hOp2 := Lib.hid (hOp.out _ b0)
      generalize hrw : M3.rawB n.data.toList = rw_ at *
      replace hrw := Lib.hid hrw
      clear hOp
      go_wp2_with fail
      refine hOp2.out.mono ?_
      rintro e w1 ⟨rfl, hb1⟩
      have hbx1 := hbx.below hb1 (by omega)
      clear hOp2
      have hz1 := hb1.size
      have hbw1 := bt b0 hb1
      have h0 : Hid ((⟨(M4.headB n ats).toArray⟩ : ByteArray).data.toList = M4.headB n ats ++ M4.textB rw_ (ks.take 0)) := by show _ = _; rw [List.take_zero, M4.textB_nil]; simp
      go_wp2_with fail
      go_loopw [7, 8] (fun u7 u8 wr => ∃ (i : Nat) (o : ByteArray), i ≤ ks.length ∧ u8 = .int .i64 (i : Int) ∧ u7 = .string o ∧ Hid (o.data.toList = M4.headB n ats ++ M4.textB rw_ (ks.take i)) ∧ Below w1.heap.size w1 wr) (fun _ u8 _ => ks.length - (intOf u8).toNat)
      case atStart => exact ⟨0, _, by omega, rfl, rfl, h0, Below.refl _ _⟩
      case round =>
        obtain ⟨i, o, hi, rfl, rfl, ho, hb⟩ := hrel
        have hbx2 := hbx1.below hb hbx1.lt
        have d4 := hbx2.cell (i := 4) rfl
        have hbw : Below w.heap.size w wr := bt hbw1 hb
        obtain ⟨_, hlc, hcm⟩ := hkd.len
        have hos : o.size = (M4.headB n ats).length + (M4.textB rw_ (ks.take i)).length := by
          show o.data.toList.length = _
          rw [ho.out, List.length_append]
        by_cases hlt : i < ks.length
        · obtain ⟨b, off, va, vk, rfl, hSb, c0, c1, c2, c3, c4, hrv⟩ := hkd.look hS hbw i hlt
          have hbl := hS b hSb
          have hfx := fitN_mem hfk (List.getElem_mem hlt)
          have hwk := weight_mem' (List.getElem_mem hlt)
          have hpre := M4.textB_prefix rw_ ks (i + 1)
          have htk := M4.textB_take rw_ ks i hlt
          have hpre2 : (M4.textB rw_ (ks.take i)).length + (M4.oneB rw_ ks[i]).length ≤ (M4.textB rw_ ks).length := by rw [htk, List.length_append] at hpre; exact hpre
          rw [List.length_append, List.length_append] at hl
          have hih := Lib.hid (ih.out S ks[i] va vk rw_ wr (by omega) (fun b h => Nat.lt_of_lt_of_le (hS b h) hbw.size) (hrv.keep (fun b h => hbw.block b (hS b h))) hfx.1 hfx.2 (by omega))
          have fin : Hid ((o ++ ⟨(M4.oneB rw_ ks[i]).toArray⟩ : ByteArray).data.toList = M4.headB n ats ++ M4.textB rw_ (ks.take (i + 1))) := by
            show _ = _
            rw [htk]; simp [ho.out]
          have hsz2 : (⟨(M4.oneB rw_ ks[i]).toArray⟩ : ByteArray).size = (M4.oneB rw_ ks[i]).length := rfl
          have hsm : o.size + (⟨(M4.oneB rw_ ks[i]).toArray⟩ : ByteArray).size ≤ 70368744177664 := by rw [hsz2]; omega
          clear hpre htk hpre2 hsz2
          generalize hA2 : M4.textB rw_ (ks.take (i + 1)) = A2 at *
          replace hA2 := Lib.hid hA2
          replace hos := Lib.hid hos
          generalize ks[i] = y at *
          obtain ⟨a3, e3, rfl⟩ := hrv.at_.slice
          obtain ⟨a4, e4, rfl⟩ := hrv.kids.slice
          generalize M4.oneB rw_ y = ev at *
          clear hrv
          have hI0 : (i : Int) < (ks.length : Int) := by omega
          go_wp2_with fail
          refine hih.out.mono ?_
          rintro e w2 ⟨rfl, hb2⟩
          have hb3 := bt hb (hb2.mono (Nat.le_refl _))
          clear hih
          generalize (⟨ev.toArray⟩ : ByteArray) = eb at *
          go_wp2_with fail
          go_roundw
          case rel => exact ⟨i + 1, _, by omega, by go_num, rfl, by rw [hA2.out]; exact fin, hb3⟩
          case measure => exact wr_meas hlt
        · obtain rfl : i = ks.length := by omega
          rw [List.take_length] at ho hos
          have hel : M4.endB n = [60, 47] ++ (n.data.toList ++ [62]) := by unfold M4.endB; rw [hvd]; rfl
          have fin : Hid ((o ++ ⟨#[60, 47]⟩ ++ n ++ ⟨#[62]⟩ : ByteArray) = ⟨(M4.headB n ats ++ (M4.textB rw_ ks ++ M4.endB n)).toArray⟩) := by
            refine str_two _ _ ?_
            rw [hel]; simp [ho.out]
          have d1 : wr.cell? ⟨w.heap.size, 1, none⟩ = some (.string n) := hbx2.cell (i := 1) rfl
          rw [List.length_append, List.length_append] at hl
          have hos2 : o.size ≤ 70368744177664 := by omega
          replace hel := Lib.hid hel
          replace hos := Lib.hid hos
          go_wp2_with fail
          go_ret
          exact ⟨by rw [M4.innerB_no, ← fin.out]; rfl, hbw⟩
    · rw [hvd, M4.innerB_yes] at hl
      have hOp2 := Lib.hid (hOp.out _ b0)
      have e3 : M4.endB n = [] := by unfold M4.endB; rw [hvd]; rfl
      go_wp2_with fail
      refine hOp2.out.mono ?_
      rintro e w1 ⟨rfl, hb1⟩
      have hbb := Lib.hid (bt b0 hb1)
      go_wp2_with fail
      go_ret
      exact ⟨by rw [hvd, M4.innerB_yes, e3]; simp, hbb.out⟩
  · have e0 := M4.oneB_4 (raw := raw) k1 k2 k3
    rw [e0]
    have k1b : (x.kind != 1) = true := by simpa using k1
    replace k1 := Lib.hid k1
    replace b0 := Lib.hid b0
    clear e0 hOp hbx hx hf k2 k3
    go_enter Try.func59, Try.ntmps59
    go_wp2_with fail
    go_ret
    exact ⟨rfl, b0.out⟩

set_option maxHeartbeats 4000000 in
set_option maxRecDepth 100000 in
theorem ref04Text (S : Nat → Prop) (v : Value) (l : List Nd) (w : World) (hS : ∀ b, S b → b < w.heap.size) (hr : RepN S w v l) (hfit : FitN l) (hl : (M4.textB false l).length ≤ 70368744177664) :
    Calls Try.prog 31 #[v] w (TxtPost (M4.textB false l) w) := by
  obtain ⟨a, cap, rfl⟩ := hr.slice
  obtain ⟨_, hlc, hcm⟩ := hr.len
  replace hfit := Lib.hid hfit
  have h0 : Hid ((⟨#[]⟩ : ByteArray).data.toList = M4.textB false (l.take 0)) := by show _ = _; rw [List.take_zero, M4.textB_nil]
  go_enter Try.func31, Try.ntmps31
  go_wp2_with fail
  go_loopw [3, 4] (fun u3 u4 wr => ∃ (i : Nat) (o : ByteArray), i ≤ l.length ∧ u4 = .int .i64 (i : Int) ∧ u3 = .string o ∧ Hid (o.data.toList = M4.textB false (l.take i)) ∧ Below w.heap.size w wr) (fun _ u4 _ => l.length - (intOf u4).toNat)
  case atStart => exact ⟨0, _, by omega, rfl, rfl, h0, Below.refl _ _⟩
  case round =>
    obtain ⟨i, o, hi, rfl, rfl, ho, hb⟩ := hrel
    have hos : o.size = (M4.textB false (l.take i)).length := by
      show o.data.toList.length = _
      rw [ho.out]
    by_cases hlt : i < l.length
    · obtain ⟨b, off, va, vk, rfl, hSb, c0, c1, c2, c3, c4, hrv⟩ := hr.look hS hb i hlt
      have hbl := hS b hSb
      have hfx := fitN_mem hfit.out (List.getElem_mem hlt)
      have hpre := M4.textB_prefix false l (i + 1)
      have htk := M4.textB_take false l i hlt
      have hpre2 : (M4.textB false (l.take i)).length + (M4.oneB false l[i]).length ≤ (M4.textB false l).length := by rw [htk, List.length_append] at hpre; exact hpre
      have hih := Lib.hid (ref04one (1 + M3.weight l[i].kids + 1) S l[i] va vk false wr (by omega) (fun b h => Nat.lt_of_lt_of_le (hS b h) hb.size) (hrv.keep (fun b h => hb.block b (hS b h))) hfx.1 hfx.2 (by omega))
      have fin : Hid ((o ++ ⟨(M4.oneB false l[i]).toArray⟩ : ByteArray).data.toList = M4.textB false (l.take (i + 1))) := by
        show _ = _
        rw [htk]; simp [ho.out]
      have hsz2 : (⟨(M4.oneB false l[i]).toArray⟩ : ByteArray).size = (M4.oneB false l[i]).length := rfl
      have hsm : o.size + (⟨(M4.oneB false l[i]).toArray⟩ : ByteArray).size ≤ 70368744177664 := by rw [hsz2]; omega
      clear hpre htk hpre2 hsz2
      generalize hA2 : M4.textB false (l.take (i + 1)) = A2 at *
      replace hA2 := Lib.hid hA2
      replace hos := Lib.hid hos
      generalize l[i] = y at *
      obtain ⟨a3, e3, rfl⟩ := hrv.at_.slice
      obtain ⟨a4, e4, rfl⟩ := hrv.kids.slice
      generalize M4.oneB false y = ev at *
      clear hrv
      have hI0 : (i : Int) < (l.length : Int) := by omega
      go_wp2_with fail
      refine hih.out.mono ?_
      rintro e w2 ⟨rfl, hb2⟩
      have hb3 := bt hb hb2
      clear hih
      generalize (⟨ev.toArray⟩ : ByteArray) = eb at *
      go_wp2_with fail
      go_roundw
      case rel => exact ⟨i + 1, _, by omega, by go_num, rfl, by rw [hA2.out]; exact fin, hb3⟩
      case measure => exact wr_meas hlt
    · obtain rfl : i = l.length := by omega
      rw [List.take_length] at ho
      have fin : Hid (o = ⟨(M4.textB false l).toArray⟩) := str_two _ _ ho.out
      go_wp2_with fail
      go_ret
      exact ⟨by rw [← fin.out]; rfl, hb⟩

set_option maxHeartbeats 4000000 in
set_option maxRecDepth 100000 in
theorem ref04Plain (wt : Nat) : ∀ (S : Nat → Prop) (v : Value) (l : List Nd) (w : World), M3.weight l < wt → (∀ b, S b → b < w.heap.size) → RepN S w v l → FitN l → (M4.plainT l).length ≤ 70368744177664 →
    Calls Try.prog 39 #[v] w (TxtPost (M4.plainT l) w) := by
  induction wt with
  | zero => intro S v l w h; omega
  | succ wt ih =>
  intro S v l w hwt hS hr hfit hl
  obtain ⟨a, cap, rfl⟩ := hr.slice
  obtain ⟨_, hlc, hcm⟩ := hr.len
  replace hfit := Lib.hid hfit
  replace ih := Lib.hid ih
  have h0 : Hid ((⟨#[]⟩ : ByteArray).data.toList = M4.plainT (l.take 0)) := by show _ = _; rw [List.take_zero, M4.plainT_nil]
  go_enter Try.func39, Try.ntmps39
  go_wp2_with fail
  go_loopw [3, 4] (fun u3 u4 wr => ∃ (i : Nat) (o : ByteArray), i ≤ l.length ∧ u4 = .int .i64 (i : Int) ∧ u3 = .string o ∧ Hid (o.data.toList = M4.plainT (l.take i)) ∧ Below w.heap.size w wr) (fun _ u4 _ => l.length - (intOf u4).toNat)
  case atStart => exact ⟨0, _, by omega, rfl, rfl, h0, Below.refl _ _⟩
  case round =>
    obtain ⟨i, o, hi, rfl, rfl, ho, hb⟩ := hrel
    have hos : o.size = (M4.plainT (l.take i)).length := by
      show o.data.toList.length = _
      rw [ho.out]
    by_cases hlt : i < l.length
    · obtain ⟨b, off, va, vk, rfl, hSb, c0, c1, c2, c3, c4, hrv⟩ := hr.look hS hb i hlt
      have hbl := hS b hSb
      have hfx := fitN_mem hfit.out (List.getElem_mem hlt)
      have hwk := weight_mem (List.getElem_mem hlt)
      have hpre := M4.plainT_prefix l (i + 1)
      have htk := M4.plainT_take l i hlt
      have hpre2 : (M4.plainT (l.take i)).length + (M4.plain1 l[i]).length ≤ (M4.plainT l).length := by rw [htk, List.length_append] at hpre; exact hpre
      have hsp : (M4.plain1 l[i]).length = (if l[i].kind = 2 then l[i].text.data.toList else []).length + (M4.plainT l[i].kids).length := by unfold M4.plain1; rw [List.length_append]
      have hih := Lib.hid (ih.out S vk l[i].kids wr (by omega) (fun b h => Nat.lt_of_lt_of_le (hS b h) hb.size) (hrv.kids.keep (fun b h => hb.block b (hS b h))) hfx.2 (by omega))
      have hsz2 : (⟨(M4.plainT l[i].kids).toArray⟩ : ByteArray).size = (M4.plainT l[i].kids).length := rfl
      have fin : Hid (∀ o2 : ByteArray, o2.data.toList = M4.plainT (l.take i) ++ (if l[i].kind = 2 then l[i].text.data.toList else []) → (o2 ++ ⟨(M4.plainT l[i].kids).toArray⟩ : ByteArray).data.toList = M4.plainT (l.take (i + 1))) := by
        intro o2 h2
        rw [htk]
        unfold M4.plain1
        rw [← List.append_assoc, ← h2]
        simp
      generalize hA2 : M4.plainT (l.take (i + 1)) = A2 at *
      replace hA2 := Lib.hid hA2
      clear hpre htk
      generalize l[i] = y at *
      obtain ⟨a3, e3, rfl⟩ := hrv.at_.slice
      obtain ⟨a4, e4, rfl⟩ := hrv.kids.slice
      clear hrv
      have hI0 : (i : Int) < (l.length : Int) := by omega
      by_cases k2 : y.kind = 2
      · rw [if_pos k2] at fin hsp
        have fin2 := Lib.hid (fin.out (o ++ y.text) (by simp [ho.out]))
        have k2b : (y.kind == 2) = true := by simpa using k2
        have hsp2 : (M4.plain1 y).length = y.text.size + (M4.plainT y.kids).length := hsp
        have hsm : o.size + y.text.size + (⟨(M4.plainT y.kids).toArray⟩ : ByteArray).size ≤ 70368744177664 := by rw [hsz2]; omega
        replace k2 := Lib.hid k2
        clear hpre2 hsz2 hsp hsp2 fin
        replace hos := Lib.hid hos
        go_wp2_with fail
        refine hih.out.mono ?_
        rintro e w2 ⟨rfl, hb2⟩
        have hb3 := bt hb hb2
        clear hih
        generalize (⟨(M4.plainT y.kids).toArray⟩ : ByteArray) = eb at *
        go_wp2_with fail
        go_roundw
        case rel => exact ⟨i + 1, _, by omega, by go_num, rfl, by rw [hA2.out]; exact fin2, hb3⟩
        case measure => exact wr_meas hlt
      · rw [if_neg k2] at fin hsp
        have fin2 := Lib.hid (fin.out o (by simp [ho.out]))
        have k2b : (y.kind == 2) = false := by simpa using k2
        have hsp2 : (M4.plain1 y).length = 0 + (M4.plainT y.kids).length := hsp
        have hsm : o.size + (⟨(M4.plainT y.kids).toArray⟩ : ByteArray).size ≤ 70368744177664 := by rw [hsz2]; omega
        replace k2 := Lib.hid k2
        clear hpre2 hsz2 hsp hsp2 fin
        replace hos := Lib.hid hos
        go_wp2_with fail
        refine hih.out.mono ?_
        rintro e w2 ⟨rfl, hb2⟩
        have hb3 := bt hb hb2
        clear hih
        generalize (⟨(M4.plainT y.kids).toArray⟩ : ByteArray) = eb at *
        go_wp2_with fail
        go_roundw
        case rel => exact ⟨i + 1, _, by omega, by go_num, rfl, by rw [hA2.out]; exact fin2, hb3⟩
        case measure => exact wr_meas hlt
    · obtain rfl : i = l.length := by omega
      rw [List.take_length] at ho
      have fin : Hid (o = ⟨(M4.plainT l).toArray⟩) := str_two _ _ ho.out
      go_wp2_with fail
      go_ret
      exact ⟨by rw [← fin.out]; rfl, hb⟩
end Go.Proofs.Ytjelmpajphajfaa

/- The reference's cut: nodes, few of all. -/
namespace Go.Proofs.Ytjelmpajphajfaa
open Go.RowKit

theorem infoA : (Try.prog.info? 44).map (fun i => (i.zero, i.size, i.bytes)) = some (some (.agg #[.string ⟨#[]⟩, .string ⟨#[]⟩]), 2, 32) := by kernel_rfl
theorem infoN : (Try.prog.info? 28).map (fun i => (i.zero, i.size, i.bytes)) = some (some (.agg #[.int .i64 0, .string ⟨#[]⟩, .slice none 0 0, .string ⟨#[]⟩, .slice none 0 0]), 5, 88) := by kernel_rfl

set_option maxHeartbeats 1000000 in
theorem ref03few (s : ByteArray) (w : World) (hs : s.size ≤ 9223372036854775807) : Calls Try.prog 67 #[.string s] w fun e w' => e = .returned (.string (M3.few s)) ∧ w = w' := by
  unfold M3.few
  by_cases h : 30 < s.size
  · rw [if_pos h]
    go_enter Try.func67, Try.ntmps67
    go_wp2
    go_ret
    exact ⟨rfl, rfl⟩
  · rw [if_neg h]
    go_enter Try.func67, Try.ntmps67
    go_wp2
    go_ret
    exact ⟨rfl, rfl⟩

/-- All texts are shorter than any that there can be. -/
def SzN : List Nd → Prop
  | [] => True
  | .mk _ n a t ks :: r => (n.size ≤ 9223372036854775807 ∧ t.size ≤ 9223372036854775807 ∧ ∀ x ∈ a, x.name.size ≤ 9223372036854775807 ∧ x.value.size ≤ 9223372036854775807) ∧ SzN ks ∧ SzN r
termination_by l => SizeOf.sizeOf l
def Sz1 (x : Nd) : Prop := x.name.size ≤ 9223372036854775807 ∧ x.text.size ≤ 9223372036854775807 ∧ ∀ a ∈ x.attrs, a.name.size ≤ 9223372036854775807 ∧ a.value.size ≤ 9223372036854775807
theorem szN_cons {x : Nd} {r : List Nd} : SzN (x :: r) ↔ Sz1 x ∧ SzN x.kids ∧ SzN r := by cases x; rw [SzN]; rfl
theorem szN_mem {x : Nd} {l : List Nd} (h : SzN l) (hx : x ∈ l) : Sz1 x ∧ SzN x.kids := by
  induction l with
  | nil => cases hx
  | cons y r ih =>
    obtain ⟨h1, h2, h3⟩ := szN_cons.1 h
    rcases List.mem_cons.1 hx with rfl | hx
    · exact ⟨h1, h2⟩
    · exact ih h3 hx

/-- What a call hands back that it has made: a row of its own, from B on, and what stands in it. -/
def Made (w' : World) (B : Nat) (v : Value) (l : List Nd) : Prop := ∃ zs, w'.ownsRow B 28 5 v l.length zs ∧ RepC (fun b => B ≤ b ∧ b < w'.heap.size ∧ v.ownBlock ≠ some b) w' zs l
theorem Made.rep {w' : World} {B : Nat} {v : Value} {l : List Nd} (h : Made w' B v l) : RepN (fun b => B ≤ b ∧ b < w'.heap.size) w' v l := by
  obtain ⟨zs, h1, h2⟩ := h
  exact ⟨zs, Row.own h1 (fun g hg => h1.lt g hg), RepC.mono (fun b hb => ⟨hb.1, hb.2.1⟩) _ _ h2⟩
def CutPost (l : List Nd) (m : Nat) (w : World) (e : Ending) (w' : World) : Prop := ∃ v', e = .returned (.tuple #[v', .int .i64 ((M3.cut l m).2 : Int)]) ∧ Made w' w.heap.size v' (M3.cut l m).1 ∧ Below w.heap.size w w'

theorem cells_one {x : Nd} {a1 a2 : Option Addr} {n1 c1 n2 c2 : Nat} : ∀ u ∈ x.cells (.slice a1 n1 c1) (.slice a2 n2 c2), u.oneCell' = true := by
  intro u hu
  simp at hu
  rcases hu with rfl | rfl | rfl | rfl | rfl <;> rfl

/-- 'append(out, x)' behind nodes that the call has made. -/
theorem Made.snoc {W w5 : World} {B g : Nat} {u : Value} {A : List Nd} {zs : List Value} {x : Nd} {va vk : Value} {cap n : Nat} {SA SX : Nat → Prop} (hn : n = A.length + 1)
    (hown5 : w5.ownsRow B 28 5 (.slice (some ⟨g, 0, none⟩) n cap) n (zs ++ x.cells va vk)) (hgrow : W.grownBy w5 u.ownBlock) (hat : u.ownBlock = some g ∨ W.heap.size ≤ g)
    (hA : RepC SA W zs A) (hSA : ∀ b, SA b → B ≤ b ∧ b < W.heap.size ∧ u.ownBlock ≠ some b)
    (hx : RepV SX W x va vk) (hSX : ∀ b, SX b → B ≤ b ∧ b < W.heap.size ∧ u.ownBlock ≠ some b) : Made w5 B (.slice (some ⟨g, 0, none⟩) n cap) (A ++ [x]) := by
  subst hn
  have hk : ∀ b, (B ≤ b ∧ b < W.heap.size ∧ u.ownBlock ≠ some b) → w5.heap[b]? = W.heap[b]? := fun b h => hgrow.block b h.2.1 (fun e => h.2.2 e.symm)
  have hm : ∀ b, (B ≤ b ∧ b < W.heap.size ∧ u.ownBlock ≠ some b) → B ≤ b ∧ b < w5.heap.size ∧ (Value.slice (some ⟨g, 0, none⟩) (A.length + 1) cap).ownBlock ≠ some b := fun b h => ⟨h.1, Nat.lt_of_lt_of_le h.2.1 hgrow.size, fun e => by
    simp [Value.ownBlock] at e
    subst e
    rcases hat with h1 | h1
    · exact h.2.2 h1
    · omega⟩
  refine ⟨zs ++ x.cells va vk, by simpa using hown5, RepC.append (RepC.single ((hx.keep fun b h => hk b (hSX b h)).mono fun b h => hm b (hSX b h))) _ _ ?_⟩
  exact RepC.mono (fun b h => hm b (hSA b h)) _ _ (RepC.keep (fun b h => hk b (hSA b h)) _ _ hA)
theorem own_slice {w : World} {B : Nat} {e : TypeId} {k n : Nat} {v : Value} {xs : List Value} (h : w.ownsRow B e k v n xs) : ∃ a c, v = .slice a n c := by
  rcases h.2 with ⟨rfl, rfl⟩ | ⟨g, cap, _, rfl, _⟩
  · exact ⟨_, _, rfl⟩
  · exact ⟨_, _, rfl⟩
theorem own_keep {w w' : World} {B : Nat} {e : TypeId} {k n : Nat} {v : Value} {xs : List Value} (h : w.ownsRow B e k v n xs) (hk : ∀ g, v.ownBlock = some g → w'.heap[g]? = w.heap[g]?) : w'.ownsRow B e k v n xs := by
  refine ⟨h.1, ?_⟩
  rcases h.2 with hn | ⟨g, cap, cur, rfl, hb, hg, rest⟩
  · exact .inl hn
  · exact .inr ⟨g, cap, cur, rfl, hb, (hk g rfl).trans hg, rest⟩
theorem own_base {w : World} {B B' : Nat} {e : TypeId} {k n : Nat} {v : Value} {xs : List Value} (h : w.ownsRow B e k v n xs) (hb : ∀ g, v.ownBlock = some g → B' ≤ g) : w.ownsRow B' e k v n xs := by
  refine ⟨h.1, ?_⟩
  rcases h.2 with hn | ⟨g, cap, cur, rfl, _, rest⟩
  · exact .inl hn
  · exact .inr ⟨g, cap, cur, rfl, hb g rfl, rest⟩

set_option maxHeartbeats 8000000 in
set_option maxRecDepth 100000 in
theorem ref03Cut (m : Nat) : ∀ (S : Nat → Prop) (v : Value) (l : List Nd) (w : World), (∀ b, S b → b < w.heap.size) → RepN S w v l → SzN l → m ≤ 1000 →
    Calls Try.prog 42 #[v, .int .i64 (m : Int)] w (CutPost l m w) := by
  induction m using Nat.strongRecOn with
  | ind m ih =>
    intro S v l w hS hr hsz hm
    obtain ⟨a, cap, rfl⟩ := hr.slice
    obtain ⟨_, hlc, hcm⟩ := hr.len
    go_enter Try.func42, Try.ntmps42
    go_wp2_with (fail)
    go_loopw [1, 6, 7] (fun u1 u6 u7 wr => ∃ (i mi : Nat) (A : List Nd), i ≤ l.length ∧ u7 = .int .i64 (i : Int) ∧ u1 = .int .i64 (mi : Int) ∧ A.length + mi ≤ m ∧ Made wr w.heap.size u6 A ∧ Below w.heap.size w wr ∧ Hid ((M3.cut l m).1 = A ++ (M3.cut (l.drop i) mi).1 ∧ (M3.cut l m).2 = (M3.cut (l.drop i) mi).2)) (fun _ _ u7 _ => l.length - (intOf u7).toNat)
    case atStart => exact ⟨0, m, [], by omega, rfl, rfl, by simp, ⟨[], World.ownsRow_nil _ _ _ _, RepC.nil _ _⟩, Below.refl _ _, rfl, rfl⟩
    case round =>
      obtain ⟨i, mi, A, hi, rfl, rfl, hAm, ⟨zs, hown, hrepA⟩, hb, hc⟩ := hrel
      obtain ⟨wo, rfl⟩ : ∃ wo : World, wo = wr := ⟨_, rfl⟩
      have hz := hb.size
      by_cases hlt : i < l.length
      · by_cases hmi : 0 < mi
        · obtain ⟨mj, rfl⟩ : ∃ mj, mi = mj + 1 := ⟨mi - 1, by omega⟩
          obtain ⟨b, off, va, vk, rfl, hSb, c0, c1, c2, c3, c4, hrv⟩ := (hr.below hS hb).at_ i hlt
          have hbl := hS b hSb
          have hdr : l.drop i = l[i] :: l.drop (i + 1) := List.drop_eq_getElem_cons hlt
          rw [hdr, M3.cut_cons] at hc
          obtain ⟨hs1, hs2⟩ := szN_mem hsz (List.getElem_mem hlt)
          clear hdr
          generalize l[i] = x at *
          obtain ⟨hat, hkd⟩ := hrv
          obtain ⟨a1, cap1, rfl⟩ := hat.slice
          obtain ⟨_, hlc1, hcm1⟩ := hat.len
          obtain ⟨a2, cap2, rfl⟩ := hkd.slice
          have hx0 := Box.new wo 28 (x.cells (.slice a1 x.attrs.length cap1) (.slice a2 x.kids.length cap2))
          have hz1 : wo.heap.size < (wo.alloc (.cells (x.cells (.slice a1 x.attrs.length cap1) (.slice a2 x.kids.length cap2)).toArray 28)).heap.size := by simp
          have hbz : Below wo.heap.size wo (wo.alloc (.cells (x.cells (.slice a1 x.attrs.length cap1) (.slice a2 x.kids.length cap2)).toArray 28)) := (Below.refl _ _).alloc (Nat.le_refl _) _
          have hfn := Lib.hid (fun W => ref03few x.name W hs1.1)
          have hft := Lib.hid (fun W => ref03few x.text W hs1.2.1)
          have hihk := fun W h1 h2 => ih mj (by omega) S (.slice a2 x.kids.length cap2) x.kids W h1 h2 hs2 (by omega)
          replace hihk := Lib.hid hihk
          go_wp2_with (fail)
          refine (hfn.out _).mono ?_
          rintro e w1 ⟨rfl, rfl⟩
          go_wp2_with (fail)
          refine (hft.out _).mono ?_
          rintro e w1 ⟨rfl, rfl⟩
          go_wp2_with (fail)
          have bx1 := Box.new wo 28 [.int .i64 x.kind, .string (M3.few x.name), .slice a1 x.attrs.length cap1, .string (M3.few x.text), .slice a2 x.kids.length cap2]
          have hbz1 : Below wo.heap.size wo (wo.alloc (.cells #[.int .i64 x.kind, .string (M3.few x.name), .slice a1 x.attrs.length cap1, .string (M3.few x.text), .slice a2 x.kids.length cap2] 28)) := (Below.refl _ _).alloc (Nat.le_refl _) _
          have hsz1 : (wo.alloc (.cells #[.int .i64 x.kind, .string (M3.few x.name), .slice a1 x.attrs.length cap1, .string (M3.few x.text), .slice a2 x.kids.length cap2] 28)).heap.size = wo.heap.size + 1 := by simp
          change Box (wo.alloc (.cells #[.int .i64 x.kind, .string (M3.few x.name), .slice a1 x.attrs.length cap1, .string (M3.few x.text), .slice a2 x.kids.length cap2] 28)) _ _ _ at bx1
          clear hx0 hz1 hbz hfn hft c0 c1 c2 c3 c4
          obtain ⟨W1, hW1⟩ : ∃ W1, wo.alloc (.cells #[.int .i64 x.kind, .string (M3.few x.name), .slice a1 x.attrs.length cap1, .string (M3.few x.text), .slice a2 x.kids.length cap2] 28) = W1 := ⟨_, rfl⟩
          rw [hW1] at bx1 hbz1 hsz1 ⊢
          clear hW1
          refine (hihk.out W1 (fun b h => by have := hS b h; omega) (hkd.keep fun b h => hbz1.block b (by have := hS b h; omega))).mono ?_
          rintro e w2 ⟨v2, rfl, ⟨zs2, hown2, hrep2⟩, hb2⟩
          obtain ⟨a3, cap3, rfl⟩ := own_slice hown2
          have hle2 := M3.cut_le x.kids mj
          have hz2 := hb2.size
          have bx2 := bx1.below hb2 (by omega)
          have d2 := bx2.cell (i := 2) rfl
          have d4 := bx2.cell (i := 4) rfl
          have f4 := bx2.free 4
          have hbr2 : Below wo.heap.size wo w2 := hbz1.trans (hb2.mono (by omega))
          clear hihk bx1
          replace hsz1 := Lib.hid hsz1
          generalize hkc : (M3.cut x.kids mj).1 = ks' at *
          generalize hmc : (M3.cut x.kids mj).2 = m2 at *
          replace hkc := Lib.hid hkc
          replace hmc := Lib.hid hmc
          go_wp2_with (fail)
          have bx3 := bx2.set 4 (.slice a3 ks'.length cap3)
          have hbr3 : Below wo.heap.size wo (w2.setCell ⟨wo.heap.size, 4, none⟩ (.slice a3 ks'.length cap3)) := hbr2.setCell (p := ⟨wo.heap.size, 4, none⟩) (Nat.le_refl _) _
          have hne2 : ∀ b, W1.heap.size ≤ b → (w2.setCell ⟨wo.heap.size, 4, none⟩ (.slice a3 ks'.length cap3)).heap[b]? = w2.heap[b]? := fun b h => Below.heap_setCell _ _ _ _ (by have := hsz1.out; simp; omega)
          have hz3 : (w2.setCell ⟨wo.heap.size, 4, none⟩ (.slice a3 ks'.length cap3)).heap.size = w2.heap.size := by simp [World.setCell]
          have hown3 := own_keep hown2 (fun g hg => hne2 g (hown2.lt g hg).1)
          have hrep3 := RepC.keep (fun b hb => hne2 b hb.1) _ _ hrep2
          simp only [List.set_cons_succ, List.set_cons_zero] at bx3
          obtain ⟨W2, hW2⟩ : ∃ W2, w2.setCell ⟨wo.heap.size, 4, none⟩ (.slice a3 ks'.length cap3) = W2 := ⟨_, rfl⟩
          rw [hW2] at bx3 hbr3 hz3 hown3 hrep3 ⊢
          clear hW2 hne2 d2 d4 f4 bx2 hown2 hrep2 hbr2
          have hgl := bx3.lt
          obtain ⟨i0, hi0, hz00, hz01, hz02⟩ := info_parts infoA
          replace hkd := Lib.hid hkd
          replace hrep3 := Lib.hid hrep3
          replace hown3 := Lib.hid hown3
          replace hrepA := Lib.hid hrepA
          replace hown := Lib.hid hown
          have hSz2 : ∀ b, S b → b < W2.heap.size := fun b h => by have := hS b h; omega
          go_loopw [9, 10] (fun u9 u10 wr => ∃ k : Nat, k ≤ 5 ∧ k ≤ x.attrs.length ∧ u10 = .int .i64 (k : Int) ∧ wr.ownsRow W2.heap.size 44 2 u9 k (cellsA ((x.attrs.take k).map M3.fewA)) ∧ Below W2.heap.size W2 wr) (fun _ u10 _ => 5 - (intOf u10).toNat)
          case atStart => exact ⟨0, by omega, by omega, rfl, World.ownsRow_nil _ _ _ _, Below.refl _ _⟩
          case round =>
            obtain ⟨k, hk5, hkl, rfl, hown4, hb4⟩ := hrel
            have hz4 := hb4.size
            have bx4 := bx3.below hb4 hgl
            have e2 := bx4.cell (i := 2) rfl
            by_cases hk : k < 5 ∧ k < x.attrs.length
            · obtain ⟨hk1, hk2⟩ := hk
              obtain ⟨b', off', rfl, hSb', q0, q1⟩ := (hat.keep (w' := wr) (fun b h => ((hb4.block b (hSz2 b h)).trans (hbr3.block b (by have := hS b h; omega))))).atA k hk2
              have hbl' := hS b' hSb'
              obtain ⟨hsa, hsb⟩ := hs1.2.2 _ (List.getElem_mem hk2)
              have htk : cellsA ((x.attrs.take (k + 1)).map M3.fewA) = cellsA ((x.attrs.take k).map M3.fewA) ++ [.string (M3.few x.attrs[k].name), .string (M3.few x.attrs[k].value)] := by
                rw [List.take_succ_eq_append_getElem hk2, List.map_append, cellsA_append]; rfl
              generalize x.attrs[k].name = nm at *
              generalize x.attrs[k].value = vl at *
              replace htk := Lib.hid htk
              have ag : u9.ownBlock ≠ some wo.heap.size := fun e => by have := (hown4.lt _ e).1; omega
              have ab : u9.ownBlock ≠ some b' := fun e => by have := (hown4.lt _ e).1; omega
              go_wp2_with (fail)
              go_region_held3 (fun w' => w'.cell? ⟨wo.heap.size, 2, none⟩ = some (.slice (some ⟨b', off', none⟩) x.attrs.length cap1) ∧ w'.cell? ⟨b', off' + k * 2, none⟩ = some (.string nm) ∧ w'.cell? ⟨b', off' + k * 2 + 1, none⟩ = some (.string vl))
                (first
                  | go_keep
                  | (go_split_ands
                     refine ⟨?_, ?_, ?_⟩
                     · (rw [hgrow.cell_far _ (by simp; omega) (Ne.symm ag)]; assumption)
                     · (rw [hgrow.cell_far _ (by simp; omega) (Ne.symm ab)]; assumption)
                     · (rw [hgrow.cell_far _ (by simp; omega) (Ne.symm ab)]; assumption)))
                (first
                  | (go_at_call 67; refine (ref03few _ _ (by assumption)).mono ?_; rintro e w' ⟨rfl, rfl⟩)
                  | (refine step_append_lies _ (by rfl) _ _ _ (by rfl) W2.heap.size 44 i0 _ 2 32 Try.underlying26 hi0 hz00 hz01 hz02 rfl (by omega) u9 k _ (by rfl) ((hown4.alloc _).drew)
                      ⟨wr.heap.size, 0, none⟩ 1 1 [.string (M3.few nm), .string (M3.few vl)] (by rfl) (by rfl) (World.news_of_block (cs := #[.string (M3.few nm), .string (M3.few vl)]) (t := 44) (fr := (0, 0)) (heap_alloc_new wr _)) (by simp [Value.oneCell'])
                      (by omega) (by unfold maxLen; omega) (by omega) (by simp; omega) (wr.heap.size + 1) (by simp) ?_; intro gg cap' w5 hown5 hgrow hat5 hlt5))
              have hb5 : Below W2.heap.size W2 w5 := ((hb4.alloc hz4 (.cells #[.string (M3.few nm), .string (M3.few vl)] 44)).drew).grown hgrow (by simp; omega) (fun g hg => (hown4.lt g hg).1)
              have hown6 : w5.ownsRow W2.heap.size 44 2 (.slice (some ⟨gg, 0, none⟩) (k + 1) cap') (k + 1) (cellsA ((x.attrs.take (k + 1)).map M3.fewA)) := by rw [htk.out]; exact hown5
              clear hown5 hgrow hat5
              go_wp2
              go_roundw
              case rel => exact ⟨k + 1, by omega, by omega, by go_num, hown6, hb5⟩
              case measure => simp [intOf]; omega
            · have htk : (x.attrs.take 5).map M3.fewA = (x.attrs.take k).map M3.fewA := by
                rcases Nat.lt_or_ge k 5 with h | h
                · rw [List.take_of_length_le (show x.attrs.length ≤ 5 by omega), List.take_of_length_le (show x.attrs.length ≤ k by omega)]
                · rw [show k = 5 by omega]
              have hlk : ((x.attrs.take k).map M3.fewA).length = k := by simp; omega
              rw [← htk] at hown4 hlk
              generalize hat' : (x.attrs.take 5).map M3.fewA = ats' at *
              replace hat' := Lib.hid hat'
              replace htk := Lib.hid htk
              replace hlk := Lib.hid hlk
              obtain ⟨a4, cap4, rfl⟩ := own_slice hown4
              have f2 := bx4.free 2
              have e0 := bx4.cell (i := 0) rfl
              have e1 := bx4.cell (i := 1) rfl
              have e3 := bx4.cell (i := 3) rfl
              have e4 := bx4.cell (i := 4) rfl
              have hbr4 : Below wo.heap.size wo wr := hbr3.trans (hb4.mono (by omega))
              obtain ⟨j0, hj0, hj00, hj01, hj02⟩ := info_parts infoN
              have hownW := own_keep hown.out (fun g hg => hbr4.block g (hown.out.lt g hg).2)
              have hlz := hbr4.size
              have hz5 : (wr.setCell ⟨wo.heap.size, 2, none⟩ (.slice a4 k cap4)).heap.size = wr.heap.size := by simp [World.setCell]
              have hb5 : Below wo.heap.size wo (wr.setCell ⟨wo.heap.size, 2, none⟩ (.slice a4 k cap4)) := hbr4.setCell (p := ⟨wo.heap.size, 2, none⟩) (Nat.le_refl _) _
              have hfar : ∀ b, b ≠ wo.heap.size → (wr.setCell ⟨wo.heap.size, 2, none⟩ (.slice a4 k cap4)).heap[b]? = wr.heap[b]? := fun b h => Below.heap_setCell _ _ _ _ (by simpa using h)
              have hownW2 := own_keep hownW (fun g hg => hfar g (by have := (hownW.lt g hg); have := (hown.out.lt g hg).2; omega))
              have hnews : ∀ j u, ([.int .i64 x.kind, .string (M3.few x.name), .slice a4 k cap4, .string (M3.few x.text), .slice a3 ks'.length cap3] : List Value)[j]? = some u →
                  ((wr.setCell ⟨wo.heap.size, 2, none⟩ (.slice a4 k cap4)).alloc (.cells #[.int .i64 x.kind, .string (M3.few x.name), .slice a4 k cap4, .string (M3.few x.text), .slice a3 ks'.length cap3] 28)).cell? ((⟨wr.heap.size, 0, none⟩ : Addr).add j) = some u := by
                rw [← hz5]
                exact World.news_of_block (cs := #[.int .i64 x.kind, .string (M3.few x.name), .slice a4 k cap4, .string (M3.few x.text), .slice a3 ks'.length cap3]) (t := 28) (fr := (0, 0)) (heap_alloc_new _ _)
              -- the new node, as it lies behind the store
              have hatN := own_keep hown4 (fun g hg => hfar g (by have := (hown4.lt g hg).1; omega))
              have hownK := own_keep (own_keep hown3.out (fun g hg => hb4.block g (hown3.out.lt g hg).2)) (fun g hg => hfar g (by have := (hown3.out.lt g hg).1; have := hsz1.out; omega))
              have hrepK : RepC (fun b => W1.heap.size ≤ b ∧ b < w2.heap.size ∧ (Value.slice a3 ks'.length cap3).ownBlock ≠ some b) (wr.setCell ⟨wo.heap.size, 2, none⟩ (.slice a4 k cap4)) zs2 ks' :=
                RepC.keep (fun b h => (hfar b (by have := h.1; have := hsz1.out; omega)).trans (hb4.block b (by have := h.2.1; omega))) _ _ hrep3.out
              have hrepA2 : RepC (fun b => w.heap.size ≤ b ∧ b < wo.heap.size ∧ u6.ownBlock ≠ some b) (wr.setCell ⟨wo.heap.size, 2, none⟩ (.slice a4 k cap4)) zs A := RepC.keep (fun b h => hb5.block b h.2.1) _ _ hrepA.out
              have hlA := hown.out.1
              have hownK3 := Lib.hid (fun g hg => (hown3.out.lt g hg).2)
              replace hrepK := Lib.hid hrepK
              replace hrepA2 := Lib.hid hrepA2
              replace hatN := Lib.hid hatN
              replace hownK := Lib.hid hownK
              replace hnews := Lib.hid hnews
              replace hfar := Lib.hid hfar
              replace hz5 := Lib.hid hz5
              clear hrepA hrep3 hown3 hown4 hownW
              have hgb6 : u6.ownBlock ≠ some wo.heap.size := fun e => by have := (hown.out.lt _ e).2; omega
              have htest : (decide (k < x.attrs.length) = false) ∨ (decide (k < x.attrs.length) = true ∧ decide ((k : Int) < 5) = false) := by
                by_cases h : k < x.attrs.length
                · exact Or.inr ⟨decide_eq_true (by omega), decide_eq_false (by omega)⟩
                · exact Or.inl (decide_eq_false (by omega))
              clear hk
              rcases htest with htest | ⟨htest, htest2⟩
              all_goals
                go_wp2_with (at_builtin; refine wpList_append_lies _ rfl _ _ 22 rfl w.heap.size 28 j0 _ 5 88 Try.underlying22 hj0 hj00 hj01 hj02 rfl (by omega) u6 A.length zs rfl (hownW2.alloc _) ⟨wr.heap.size, 0, none⟩ 1 1 _ rfl rfl hnews.out (by simp [Value.oneCell']) (by omega) (by unfold maxLen; omega) (by omega) (by simp; omega) _ rfl ?_; intro gg cap' w5 hown5 hgrow hat5 hlt5)
                have hb6 : Below w.heap.size w w5 := (((hb.trans (hb5.mono hz)).alloc (by have := hz5.out; omega) (.cells #[.int .i64 x.kind, .string (M3.few x.name), .slice a4 _ cap4, .string (M3.few x.text), .slice a3 ks'.length cap3] 28))).grown hgrow (by simp; have := hz5.out; omega) (fun g hg => (hown.out.lt g hg).1)
                have hmade : Made w5 w.heap.size (.slice (some ⟨gg, 0, none⟩) (A.length + 1) cap') (A ++ [.mk x.kind (M3.few x.name) ats' (M3.few x.text) ks']) := by
                  refine Made.snoc (u := u6) (va := .slice a4 _ cap4) (vk := .slice a3 ks'.length cap3) (SA := fun b => w.heap.size ≤ b ∧ b < wo.heap.size ∧ u6.ownBlock ≠ some b) (SX := fun b => W1.heap.size ≤ b ∧ b < wr.heap.size) rfl hown5 hgrow ?_ ?_ ?_ ?_ ?_
                  · rcases hat5 with h | h
                    · exact Or.inl h
                    · exact Or.inr (by rw [h]; exact Nat.le_refl _)
                  · exact RepC.keep (fun b h => Below.heap_alloc _ _ _ (by have := hz5.out; have := h.2.1; omega)) _ _ hrepA2.out
                  · exact fun b h => ⟨h.1, by simp; have := hz5.out; have := h.2.1; omega, h.2.2⟩
                  · refine RepV.keep (w := wr.setCell ⟨wo.heap.size, 2, none⟩ (.slice a4 _ cap4)) ⟨?_, zs2, ?_, ?_⟩ (fun b h => Below.heap_alloc _ _ _ (by have := hz5.out; have := h.2; omega))
                    · have h1 := Row.own hatN.out (S := fun b => W1.heap.size ≤ b ∧ b < wr.heap.size) (fun g hg => by have := hatN.out.lt g hg; have := hz5.out; omega)
                      simpa only [Nd.attrs, hlk.out] using h1
                    · exact Row.own hownK.out (fun g hg => by have h1 := hownK.out.lt g hg; have h2 := hz5.out; have h3 := hownK3.out g hg; omega)
                    · exact RepC.mono (fun b h => ⟨h.1, by have := h.2.1; omega⟩) _ _ hrepK.out
                  · exact fun b h => ⟨by have := h.1; have := hsz1.out; omega, by simp; have := hz5.out; have := h.2; omega, fun e => by have := (hown.out.lt b e).2; have := h.1; have := hsz1.out; omega⟩
                clear hown5 hgrow hat5
                replace hmade := Lib.hid hmade
                go_roundw
                case rel =>
                  refine ⟨i + 1, m2, A ++ [.mk x.kind (M3.few x.name) ats' (M3.few x.text) ks'], by omega, by go_num, rfl, by simp; omega, hmade.out, hb6, ?_⟩
                  show _ ∧ _
                  rw [hc.1, hc.2]
                  simp
                case measure => simp [intOf]; omega
        · obtain rfl : mi = 0 := by omega
          rw [M3.cut_zero] at hc
          have hc1 := Lib.hid (show (M3.cut l m).1 = A by rw [hc.1]; simp)
          have hc2 := Lib.hid hc.2
          clear hc hmi
          replace hown := Lib.hid hown
          replace hrepA := Lib.hid hrepA
          go_wp2
          go_ret2
          exact ⟨u6, by rw [hc2.out]; rfl, by rw [hc1.out]; exact ⟨zs, hown.out, hrepA.out⟩, hb⟩
      · obtain rfl : i = l.length := by omega
        rw [List.drop_length, M3.cut_nil] at hc
        have hc1 := Lib.hid (show (M3.cut l m).1 = A by rw [hc.1]; simp)
        have hc2 := Lib.hid hc.2
        clear hc
        replace hown := Lib.hid hown
        replace hrepA := Lib.hid hrepA
        go_wp2
        go_ret2
        exact ⟨u6, by rw [hc2.out]; rfl, by rw [hc1.out]; exact ⟨zs, hown.out, hrepA.out⟩, hb⟩

def fewN (l : List Nd) : List Nd := (M3.cut l 40).1
def MadePost (l : List Nd) (w : World) (e : Ending) (w' : World) : Prop := ∃ v', e = .returned v' ∧ Made w' w.heap.size v' l ∧ Below w.heap.size w w'
set_option maxHeartbeats 1000000 in
theorem ref03Few (S : Nat → Prop) (v : Value) (l : List Nd) (w : World) (hS : ∀ b, S b → b < w.heap.size) (hr : RepN S w v l) (hsz : SzN l) :
    Calls Try.prog 13 #[v] w (MadePost (fewN l) w) := by
  have h := Lib.hid (fun W h1 h2 => ref03Cut 40 S v l W h1 h2 hsz (by omega))
  obtain ⟨a, cap, rfl⟩ := hr.slice
  go_enter Try.func13, Try.ntmps13
  go_wp2_with (fail)
  refine (h.out w hS hr).mono ?_
  rintro e w1 ⟨v1, rfl, hm1, hb1⟩
  replace hm1 := Lib.hid hm1
  go_wp2
  go_ret
  exact ⟨v1, rfl, hm1.out, hb1⟩
end Go.Proofs.Ytjelmpajphajfaa
