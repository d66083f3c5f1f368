/- Texts joined: Wr2, Wr3, Par1, Ref07c, Math7d, Ref07t, Ref04, Par2, Par3, Shp7, Math7c, Math8a, Math5g, Math5h, Math5i, Math5j, Math8b, Math8c. -/
import Derived.StillTailTactics
import Derived.Shelf.Abstract
import Derived.BigQuiet
import Derived.Lib.SlBytesConst
import Derived.Test.YteefodibpjgicaaGreatM1
import Derived.Test.YteefodibpjgicaaGreatM2
import Derived.Test.YteefodibpjgicaaGreatM3
import Derived.Test.YteefodibpjgicaaGreatM4
import Derived.Test.YteefodibpjgicaaGreatM5
import Derived.Test.YteefodibpjgicaaGreatM6
import Derived.Test.YteefodibpjgicaaGreatM7
import Derived.Test.YteefodibpjgicaaGreatM8
/- Package write: an element, nodes, texts alone. -/
namespace Go.Proofs.YteefodibpjgicaaGreat
open Go.RowKit
set_option maxHeartbeats 4000000 in
set_option maxRecDepth 100000 in
theorem writeElement {B F g : Nat} {P : List UInt8 → World → Prop} (hp : Puts B F g P) (S : Nat → Prop) (x : Nd) (va vk : Value) (acc : List UInt8) (w w0 : World) (hS : ∀ b, S b → b < B) (hx : RepV S w0 x va vk) (hw : Below B w0 w) (hf : Fit1 x) (hP : P acc w) (hk1 : x.kind = 1)
    (hN : ∀ (acc : List UInt8) (raw : Bool) (W : World), Below B w0 W → P acc W → acc.length + (M4.textB raw x.kids).length ≤ 70368744177664 → Calls Tryz.prog 98 #[vk, .bool raw, .func (.func F) #[] #[.pointer (some ⟨g, 0, none⟩)]] W (PutPost B P (acc ++ M4.textB raw x.kids) W))
    (hl : acc.length + (M4.oneB false x).length ≤ 70368744177664) :
    Calls Tryz.prog 108 #[x.val va vk, .func (.func F) #[] #[.pointer (some ⟨g, 0, none⟩)]] w (PutPost B P (acc ++ M4.oneB false x) w) := by
  obtain ⟨a1, e1, hva⟩ := hx.at_.slice
  obtain ⟨a2, e2, hvk⟩ := hx.kids.slice
  subst hva hvk
  rw [M4.oneB_1 hk1] at hl ⊢
  cases x with | mk k n ats t ks =>
  have hB := hp.base _ _ hP
  have hb0 : Below w.heap.size w (w.alloc (.cells #[.int .i64 k, .string n, .slice a1 ats.length e1, .string t, .slice a2 ks.length e2] 41)) := (Below.refl _ _).alloc (Nat.le_refl _) _
  have hbx := Box.new w 41 [.int .i64 k, .string n, .slice a1 ats.length e1, .string t, .slice a2 ks.length e2]
  have hP0 := hp.stab _ _ _ hP hb0
  have hk0 := Lib.hid (Kw.of_below hb0 hB)
  rw [List.length_append, List.length_append] at hl
  have hBeg := Lib.hid (fun (W : World) (hW : Below B w W) (hP : P acc W) => writeBegin hp S (.mk k n ats t ks) (.slice a1 ats.length e1) (.slice a2 ks.length e2) acc W w0 hS hx (hw.trans hW) hf hP (by omega))
  have hEnd := Lib.hid (fun (acc : List UInt8) (W : World) (hP : P acc W) (hl : acc.length + (M4.endB n).length ≤ 70368744177664) => writeEnd hp (.mk k n ats t ks) (.slice a1 ats.length e1) (.slice a2 ks.length e2) acc W ⟨_, _, _, rfl⟩ ⟨_, _, _, rfl⟩ hP hl)
  replace hN := Lib.hid hN
  replace hw := Lib.hid hw
  clear hx hf hk1
  simp only [Nd.kind, Nd.name, Nd.text, Nd.attrs, Nd.kids, Nd.val] at *
  go_enter Tryz.func108, Tryz.ntmps108
  go_wp2_with (fail)
  refine (hBeg.out _ (hb0.mono hB) hP0).mono ?_
  rintro e w1 ⟨rfl, hP1, hk1⟩
  have hb1 := hk1.box hbx (.inl rfl)
  have d1 := hb1.cell (i := 1) rfl
  have hka := Lib.hid (hk0.out.trans hk1)
  clear hbx hP0 hb0 hBeg hk1
  go_wp2_with (fail)
  refine (domVoid _ _).mono ?_
  rintro e w1 ⟨rfl, rfl⟩
  cases hvd : M3.voidB n.data.toList
  · rw [hvd] at hl
    rw [M4.innerB_no] at hl
    have d4 := hb1.cell (i := 4) rfl
    have hkd : Below w1.heap.size w1 w1.drew := (Below.refl _ w1).drew
    have hPd := hp.stab _ _ _ hP1 hkd
    have hkd2 := Lib.hid (hka.out.trans (Kw.of_below hkd (hp.base _ _ hP1)))
    have hNN := Lib.hid (hN.out (acc ++ M4.headB n ats) (M3.rawB n.data.toList) w1.drew (hw.out.trans hkd2.out.low) hPd (by rw [List.length_append]; omega))
    have hbd := hb1.below hkd hb1.lt
    replace hbd := Lib.hid hbd
    replace hPd := Lib.hid hPd
    clear hkd
    go_wp2_with (fail)
    refine wp_region_still_tail 6 (by kernel_rfl) (by kernel_rfl) ?_
    simp only [List.take_succ_cons, List.take_zero, List.drop_succ_cons, List.drop_zero]
    repeat still_step
    still_call (domRaw _ _)
    repeat still_step
    refine wpStill_nil ?_
    change wpList _ _ _ _ _ w1.drew
    go_wp2_with (fail)
    refine hNN.out.mono ?_
    rintro e w2 ⟨rfl, hP2, hk2⟩
    have hb2 := hk2.box hbd.out (.inl rfl)
    have f0 := hb2.cell (i := 0) rfl
    have f1 := hb2.cell (i := 1) rfl
    have f2 := hb2.cell (i := 2) rfl
    have f3 := hb2.cell (i := 3) rfl
    have f4 := hb2.cell (i := 4) rfl
    clear hNN d1 d4 hb1
    go_wp2_with (fail)
    refine (hEnd.out _ _ hP2 (by simp only [List.length_append]; omega)).mono ?_
    rintro e w3 ⟨rfl, hP3, hk3⟩
    have hab : Hid (acc ++ M4.headB n ats ++ M4.textB (M3.rawB n.data.toList) ks ++ M4.endB n = acc ++ (M4.headB n ats ++ (M4.innerB false (M3.rawB n.data.toList) ks ++ M4.endB n))) := by show _ = _; rw [M4.innerB_no]; simp
    have hP4 := Lib.hid (hab.out ▸ hP3 : P (acc ++ (M4.headB n ats ++ (M4.innerB false (M3.rawB n.data.toList) ks ++ M4.endB n))) w3)
    clear hP3 hab
    go_wp2_with (fail)
    go_end0
    exact ⟨rfl, by rw [hvd]; exact hP4.out, (hkd2.out.trans hk2).trans hk3⟩
  · rw [hvd] at hl
    have f0 := hb1.cell (i := 0) rfl
    have f2 := hb1.cell (i := 2) rfl
    have f3 := hb1.cell (i := 3) rfl
    have f4 := hb1.cell (i := 4) rfl
    rw [M4.innerB_yes] at hl ⊢
    go_wp2_with (fail)
    refine (hEnd.out _ _ hP1 (by simp only [List.length_append, List.length_nil] at *; omega)).mono ?_
    rintro e w3 ⟨rfl, hP3, hk3⟩
    have hab : Hid (acc ++ M4.headB n ats ++ M4.endB n = acc ++ (M4.headB n ats ++ ([] ++ M4.endB n))) := by show _ = _; simp
    have hP4 := Lib.hid (hab.out ▸ hP3 : P (acc ++ (M4.headB n ats ++ ([] ++ M4.endB n))) w3)
    clear hP3 hab
    go_wp2_with (fail)
    go_end0
    exact ⟨rfl, by rw [hvd, M4.innerB_yes]; exact hP4.out, hka.out.trans hk3⟩

theorem fitN_mem {x : Nd} {l : List Nd} (h : FitN l) (hx : x ∈ l) : Fit1 x ∧ FitN x.kids := by
  induction l with
  | nil => cases hx
  | cons y r ih =>
    obtain ⟨h1, h2, h3⟩ := fitN_cons.1 h
    rcases List.mem_cons.1 hx with rfl | hx
    · exact ⟨h1, h2⟩
    · exact ih h3 hx
theorem RepN.look {S : Nat → Prop} {w w' : World} {a : Option Addr} {n cap : Nat} {l : List Nd} {B : Nat} (h : RepN S w (.slice a n cap) l) (hS : ∀ b, S b → b < B) (hw : Below B w w') (i : Nat) (hi : i < l.length) :
    ∃ b off va vk, a = some ⟨b, off, none⟩ ∧ S b ∧ w'.cell? ⟨b, off + i * 5, none⟩ = some (.int .i64 l[i].kind) ∧ w'.cell? ⟨b, off + i * 5 + 1, none⟩ = some (.string l[i].name) ∧ w'.cell? ⟨b, off + i * 5 + 2, none⟩ = some va ∧
      w'.cell? ⟨b, off + i * 5 + 3, none⟩ = some (.string l[i].text) ∧ w'.cell? ⟨b, off + i * 5 + 4, none⟩ = some vk ∧ RepV S w l[i] va vk := by
  obtain ⟨b, off, va, vk, h1, h2, c0, c1, c2, c3, c4, h3⟩ := h.at_ i hi
  have hb := hS b h2
  have k := fun o => hw.cell (p := ⟨b, o, none⟩) hb
  exact ⟨b, off, va, vk, h1, h2, (k _).trans c0, (k _).trans c1, (k _).trans c2, (k _).trans c3, (k _).trans c4, h3⟩

set_option maxHeartbeats 4000000 in
set_option maxRecDepth 100000 in
theorem writeNodes {B F g : Nat} {P : List UInt8 → World → Prop} (hp : Puts B F g P) (w0 : World) (S : Nat → Prop) (hS : ∀ b, S b → b < B) (wt : Nat) : ∀ (v : Value) (l : List Nd) (raw : Bool) (acc : List UInt8) (w : World), M3.weight l < wt → FitN l → RepN S w0 v l → Below B w0 w → P acc w → acc.length + (M4.textB raw l).length ≤ 70368744177664 →
    Calls Tryz.prog 98 #[v, .bool raw, .func (.func F) #[] #[.pointer (some ⟨g, 0, none⟩)]] w (PutPost B P (acc ++ M4.textB raw l) w) := by
  induction wt with
  | zero => intro v l raw acc w h; omega
  | succ wt ih =>
  intro v l raw acc w hwt hfit hr hw hP hl
  obtain ⟨a, cap, rfl⟩ := hr.slice
  obtain ⟨_, hlc, hcm⟩ := hr.len
  have hE := hp.enter
  have hB := hp.base _ _ hP
  replace ih := Lib.hid ih
  replace hfit := Lib.hid hfit
  replace hw := Lib.hid hw
  have h0 : P (acc ++ M4.textB raw (l.take 0)) w := by rw [List.take_zero, M4.textB_nil, List.append_nil]; exact hP
  go_enter Tryz.func98, Tryz.ntmps98
  go_wp2_with fail
  go_loopw [7, 10] (fun _ u10 wr => ∃ i : Nat, i ≤ l.length ∧ u10 = .int .i64 (i : Int) ∧ P (acc ++ M4.textB raw (l.take i)) wr ∧ Kw B w wr) (fun _ u10 _ => l.length - (intOf u10).toNat)
  case atStart => exact ⟨0, by omega, rfl, h0, Kw.refl _ _⟩
  case round =>
    obtain ⟨i, hi, rfl, hP3, hk3⟩ := hrel
    by_cases hlt : i < l.length
    · have hrw := hw.out.trans hk3.low
      obtain ⟨b, off, va, vk, rfl, hSb, c0, c1, c2, c3, c4, hrv⟩ := hr.look hS hrw i hlt
      have hbl := hS b hSb
      have hz3 := hp.base _ _ hP3
      have hfx := fitN_mem hfit.out (List.getElem_mem hlt)
      have hwk := weight_mem (List.getElem_mem hlt)
      have hpre := M4.textB_prefix raw l (i + 1)
      have htk := M4.textB_take raw l i hlt
      rw [htk] at hpre
      rw [List.length_append] at hpre
      have hl3 : (acc ++ M4.textB raw (l.take i)).length + (M4.oneB raw l[i]).length ≤ 70368744177664 := by rw [List.length_append]; omega
      have hab : Hid (acc ++ M4.textB raw (l.take i) ++ M4.oneB raw l[i] = acc ++ M4.textB raw (l.take (i + 1))) := by show _ = _; rw [htk, List.append_assoc]
      clear hpre htk
      generalize l[i] = x at *
      generalize hA2 : acc ++ M4.textB raw (l.take (i + 1)) = A2 at *
      replace hA2 := Lib.hid hA2
      generalize acc ++ M4.textB raw (l.take i) = A1 at *
      obtain ⟨a1, e1, rfl⟩ := hrv.at_.slice
      obtain ⟨a2, e2, rfl⟩ := hrv.kids.slice
      have bo := (Below.refl _ wr).alloc (Nat.le_refl _) (.cells (x.cells (.slice a1 x.attrs.length e1) (.slice a2 x.kids.length e2)).toArray 41)
      have hP4 := hp.stab _ _ _ hP3 bo
      have hk4 := Lib.hid (hk3.trans (Kw.of_below bo hz3))
      have bx := Box.new wr 41 (x.cells (.slice a1 x.attrs.length e1) (.slice a2 x.kids.length e2))
      have hI0 : (i : Int) < (l.length : Int) := by omega
      have fin : ∀ W, P (A1 ++ M4.oneB raw x) W → P A2 W := fun W h => hab.out ▸ h
      replace fin := Lib.hid fin
      clear hab hP3 hk3
      have hrb := hrw.trans (bo.mono hz3)
      replace hrw := Lib.hid hrw
      by_cases k1 : x.kind = 1
      · have hEl := Lib.hid (writeElement hp S x (.slice a1 x.attrs.length e1) (.slice a2 x.kids.length e2) A1 _ w0 hS hrv hrb hfx.1 hP4 k1 (fun acc raw W hW hPW hlW => ih.out _ _ raw acc W (by omega) hfx.2 hrv.kids hW hPW hlW) (by rw [M4.oneB_1 k1] at hl3 ⊢; exact hl3))
        have fin2 := Lib.hid (fun W (h : P (A1 ++ M4.oneB false x) W) => fin.out W (by rw [M4.oneB_1 k1] at h ⊢; exact h))
        have k1b : (x.kind == 1) = true := by simpa using k1
        replace k1 := Lib.hid k1
        clear fin hrb
        go_wp2_with fail
        refine hEl.out.mono ?_
        rintro e w2 ⟨rfl, hP5, hk5⟩
        have hP6 := Lib.hid (fin2.out _ hP5)
        go_wp2_with fail
        go_roundw
        case rel => exact ⟨i + 1, by omega, by go_num, by rw [hA2.out]; exact hP6.out, hk4.out.trans hk5⟩
        case measure => exact wr_meas hlt
      have k1b : (x.kind == 1) = false := by simpa using k1
      by_cases k2 : x.kind = 2
      · have hsz := hfx.1.2.1
        rw [M4.oneB_2 k2] at hl3
        have hTx := Lib.hid (writeText hp x.text raw A1 _ hP4 (by omega) hl3)
        have fin2 := Lib.hid (fun W (h : P (A1 ++ M4.charsB raw x.text) W) => fin.out W (by rw [M4.oneB_2 k2]; exact h))
        have k2b : (x.kind == 2) = true := by simpa using k2
        replace k2 := Lib.hid k2
        clear fin hrb
        go_wp2_with fail
        refine hTx.out.mono ?_
        rintro e w2 ⟨rfl, hP5, hk5⟩
        have hP6 := Lib.hid (fin2.out _ hP5)
        go_wp2_with fail
        go_roundw
        case rel => exact ⟨i + 1, by omega, by go_num, by rw [hA2.out]; exact hP6.out, hk4.out.trans hk5⟩
        case measure => exact wr_meas hlt
      have k2b : (x.kind == 2) = false := by simpa using k2
      by_cases k3 : x.kind = 3
      · have hsz := hfx.1.2.1
        rw [M4.oneB_3 k3, M4.commB_len] at hl3
        have fin2 := Lib.hid (fun W (h : P (A1 ++ (⟨#[60, 33, 45, 45]⟩ : ByteArray).data.toList ++ x.text.data.toList ++ (⟨#[45, 45, 62]⟩ : ByteArray).data.toList) W) => fin.out W (by rw [M4.oneB_3 k3, M4.commB]; simpa using h))
        have k3b : (x.kind == 3) = true := by simpa using k3
        replace k3 := Lib.hid k3
        clear fin hrb
        go_wp2_with fail
        refine (hp.call A1 ⟨#[60, 33, 45, 45]⟩ _ hP4 (by show A1.length + 4 ≤ _; omega)).mono ?_
        rintro e w2 ⟨rfl, hP5, hk5⟩
        have bx1 := hk5.box bx (.inl rfl)
        have d3 := bx1.cell (i := 3) rfl
        clear bx c0 c1 c2 c3 c4
        go_wp2_with fail
        refine (hp.call _ x.text _ hP5 (by rw [List.length_append]; show A1.length + 4 + x.text.size ≤ _; omega)).mono ?_
        rintro e w3 ⟨rfl, hP6, hk6⟩
        go_wp2_with fail
        refine (hp.call _ ⟨#[45, 45, 62]⟩ _ hP6 (by rw [List.length_append, List.length_append]; show A1.length + 4 + x.text.size + 3 ≤ _; omega)).mono ?_
        rintro e w4 ⟨rfl, hP7, hk7⟩
        have hP8 := Lib.hid (fin2.out _ hP7)
        clear hP7
        go_wp2_with fail
        go_roundw
        case rel => exact ⟨i + 1, by omega, by go_num, by rw [hA2.out]; exact hP8.out, ((hk4.out.trans hk5).trans hk6).trans hk7⟩
        case measure => exact wr_meas hlt
      · have k3b : (x.kind == 3) = false := by simpa using k3
        have hP5 := Lib.hid (fin.out _ (by rw [M4.oneB_4 k1 k2 k3, List.append_nil]; exact hP4))
        replace k1 := Lib.hid k1
        replace k2 := Lib.hid k2
        replace k3 := Lib.hid k3
        clear fin hrb
        go_wp2_with fail
        go_roundw
        case rel => exact ⟨i + 1, by omega, by go_num, by rw [hA2.out]; exact hP5.out, hk4.out⟩
        case measure => exact wr_meas hlt
    · obtain rfl : i = l.length := by omega
      rw [List.take_length] at hP3
      replace hP3 := Lib.hid hP3
      go_wp2_with fail
      go_end0
      exact ⟨rfl, hP3.out, hk3⟩

end Go.Proofs.YteefodibpjgicaaGreat

/- Package write: Text, Open, Close, Length, Plain. -/
namespace Go.Proofs.YteefodibpjgicaaGreat
open Go.RowKit Go.Shelf
/-- What a builder of the call's own holds. -/
def PB (b : Nat) (acc : List UInt8) (w : World) : Prop := Lib.IsBuilderF 120 5 b b (u8s acc) w ∧ b ≤ w.heap.size
theorem isBuilderF_below {T e : TypeId} {B b : Nat} {bs : List Value} {w w' : World} (h : Lib.IsBuilderF T e B b bs w) (hb : Below w.heap.size w w') : Lib.IsBuilderF T e B b bs w' := by
  have key : ∀ p, Lib.BuilderAtF T e B b p bs w → Lib.BuilderAtF T e B b p bs w' := by
    rintro p ⟨h1, v, h2, h3, h4⟩
    refine ⟨h1, v, (hb.block b (Array.getElem?_eq_some_iff.1 h2).1).trans h2, ⟨h3.1, ?_⟩, h4⟩
    rcases h3.2 with h5 | ⟨g, cap, cur, fz, hv, hg1, hg2, hg3⟩
    · exact .inl h5
    · exact .inr ⟨g, cap, cur, fz, hv, hg1, (hb.block g (Array.getElem?_eq_some_iff.1 hg2).1).trans hg2, hg3⟩
  exact h.elim (fun x => .inl (key _ x)) (fun x => .inr (key _ x))
theorem kn_of_others {b : Nat} {w w' : World} (h : Below b w w') (k : Lib.OthersKept 5 (some b) w w') (hb : ∃ c fr, w.heap[b]? = some (.cells c 120 fr)) : Kw b w w' := by
  refine ⟨h, fun i c t fr hi ht => k i _ hi ?_ ?_⟩
  · intro e
    obtain ⟨c', fr', h'⟩ := hb
    cases e
    rw [h'] at hi
    cases hi
    rcases ht with h | h | h <;> exact absurd h (by decide)
  · intro c' fz e
    cases e
    rcases ht with h | h | h <;> exact absurd h (by decide)

set_option maxHeartbeats 2000000 in
set_option maxRecDepth 100000 in
theorem putsB (b : Nat) : Puts b 105 b (PB b) where
  enter := enters_of Tryz.func105 (by kernel_rfl) rfl
  base := fun acc w h => h.2
  stab := fun acc w w' h hb => ⟨isBuilderF_below h.1 hb, Nat.le_trans h.2 hb.size⟩
  call := by
    intro acc s w h hl
    have hw := Lib.hid (bWriteString b b (u8s acc) s w h.1 (by rw [u8s_length]; omega) h.2)
    have hblk : ∃ c fr, w.heap[b]? = some (.cells c 120 fr) := by
      rcases h.1 with ⟨_, v, hv, _⟩ | ⟨_, v, hv, _⟩ <;> exact ⟨_, _, hv⟩
    have hb := h.2
    replace hblk := Lib.hid hblk
    clear h
    go_enter Tryz.func105, Tryz.ntmps105
    go_wp2_with fail
    refine hw.out.mono ?_
    rintro e w1 ⟨rfl, h1, h2, h3⟩
    have hP : PB b (acc ++ s.data.toList) w1 := ⟨.inr (by rw [u8s_append]; exact h1), Nat.le_trans hb h2.size⟩
    have hK := kn_of_others h2 h3 hblk.out
    replace hP := Lib.hid hP
    go_wp2_with fail
    go_end0
    exact ⟨rfl, hP.out, hK⟩

def TextPost (out : List UInt8) (w : World) (e : Ending) (w' : World) : Prop := e = .returned (.string ⟨out.toArray⟩) ∧ Below w.heap.size w w'
set_option maxHeartbeats 2000000 in
set_option maxRecDepth 100000 in
theorem writeJoined (G h : Nat) (out : List UInt8) (w : World) (hE : ∀ (args : Array Value) (w : World), (callFunc G args).run Tryz.prog w = .ok (.enter G args) w)
    (hG : ∀ w1, Below w.heap.size w w1 → PB w.heap.size [] w1 → Calls Tryz.prog G #[.func (.func 105) #[] #[.pointer (some ⟨w.heap.size, 0, none⟩)], .pointer (some ⟨h, 0, none⟩)] w1 (PutPost w.heap.size (PB w.heap.size) out w1)) :
    Calls Tryz.prog 96 #[.func (.func G) #[] #[.pointer (some ⟨h, 0, none⟩)]] w (TextPost out w) := by
  have b0 : Below w.heap.size w (w.alloc (.cells #[.pointer none, .slice none 0 0] 120)) := (Below.refl _ w).alloc (Nat.le_refl _) _
  have h0 : PB w.heap.size [] (w.alloc (.cells #[.pointer none, .slice none 0 0] 120)) := ⟨Lib.IsBuilderF.of (Lib.fresh_isBuilder 120 5 w), by simp⟩
  have hG1 := Lib.hid (hG _ b0 h0)
  replace b0 := Lib.hid b0
  clear hG h0
  go_enter Tryz.func96, Tryz.ntmps96
  go_wp2_with fail
  refine hG1.out.mono ?_
  rintro e w1 ⟨rfl, hP1, hk1⟩
  clear hG1
  go_wp2_with fail
  refine (bString w.heap.size w.heap.size _ _ hP1.1 hP1.2).mono ?_
  rintro e w2 ⟨rfl, _, b1, _⟩
  go_wp2_with fail
  go_ret
  exact ⟨rfl, (b0.out.trans hk1.low).trans b1⟩

set_option maxHeartbeats 2000000 in
set_option maxRecDepth 100000 in
theorem writeText1 {B F g : Nat} {P : List UInt8 → World → Prop} (hp : Puts B F g P) (w0 : World) (S : Nat → Prop) (hS : ∀ b, S b → b < B) (h : Nat) (v : Value) (l : List Nd) (acc : List UInt8) (w : World) (hc : w.cell? ⟨h, 0, none⟩ = some v) (hf : FitN l) (hr : RepN S w0 v l) (hw : Below B w0 w) (hP : P acc w) (hl : acc.length + (M4.textB false l).length ≤ 70368744177664) :
    Calls Tryz.prog 97 #[.func (.func F) #[] #[.pointer (some ⟨g, 0, none⟩)], .pointer (some ⟨h, 0, none⟩)] w (PutPost B P (acc ++ M4.textB false l) w) := by
  have hN := Lib.hid (writeNodes hp w0 S hS (M3.weight l + 1) _ l false acc w (by omega) hf hr hw hP hl)
  obtain ⟨a, cap, rfl⟩ := hr.slice
  clear hP hw
  go_enter Tryz.func97, Tryz.ntmps97
  go_wp2_with fail
  refine hN.out.mono ?_
  rintro e w2 ⟨rfl, hP2, hk2⟩
  replace hP2 := Lib.hid hP2
  go_wp2_with fail
  go_end0
  exact ⟨rfl, hP2.out, hk2⟩

set_option maxHeartbeats 2000000 in
set_option maxRecDepth 100000 in
theorem writeTextOf (S : Nat → Prop) (v : Value) (l : List Nd) (w : World) (hS : ∀ b, S b → b < w.heap.size) (hr : RepN S w v l) (hf : FitN l) (hl : (M4.textB false l).length ≤ 70368744177664) :
    Calls Tryz.prog 78 #[v] w (TextPost (M4.textB false l) w) := by
  obtain ⟨a, cap, rfl⟩ := hr.slice
  have b0 : Below w.heap.size w (w.alloc (.cells #[.slice a l.length cap] 25)) := (Below.refl _ w).alloc (Nat.le_refl _) _
  have hJ := Lib.hid (writeJoined 97 w.heap.size (M4.textB false l) (w.alloc (.cells #[.slice a l.length cap] 25)) (enters_of Tryz.func97 (by kernel_rfl) rfl) (fun w1 hb1 hP1 =>
    writeText1 (putsB _) (w.alloc (.cells #[.slice a l.length cap] 25)) S (fun b h => by have := hS b h; simp; omega) w.heap.size _ l [] w1 ((hb1.cell (p := ⟨w.heap.size, 0, none⟩) (by simp)).trans ((Box.new w 25 [.slice a l.length cap]).cell (i := 0) rfl)) hf (hr.keep (fun b h => b0.block b (hS b h))) hb1 hP1 (by simpa using hl)))
  replace b0 := Lib.hid b0
  go_enter Tryz.func78, Tryz.ntmps78
  go_wp2_with fail
  refine hJ.out.mono ?_
  rintro e w2 ⟨rfl, hb2⟩
  go_wp2_with fail
  go_ret
  exact ⟨rfl, b0.out.trans (hb2.mono (by simp))⟩


end Go.Proofs.YteefodibpjgicaaGreat

/- Package parse: a document on its way, from bytes to nodes. -/
namespace Go.Proofs.YteefodibpjgicaaGreat
open Go.RowKit
theorem TokR.ofT {w : World} {B : Nat} {v : Value} {l : List Tok} (h : Toks w B v l) : TokR (fun b => B ≤ b ∧ b < w.heap.size) w v l := by
  obtain ⟨xs, h1, h2⟩ := h.rows
  exact ⟨xs, h1, h2⟩

set_option maxHeartbeats 2000000 in
set_option maxRecDepth 100000 in
theorem parTreeNext (S : Nat → Prop) (v : Value) (l : List Nd) (w : World) (hS : ∀ b, S b → b < w.heap.size) (hr : RepN S w v l) (hf : FitN l) (hl : (M4.textB false l).length ≤ 70368744177664) :
    Calls Tryz.prog 55 #[v] w fun e w' => e = .returned (.iface 47 (.string ⟨(M4.textB false l).toArray⟩)) ∧ Below w.heap.size w w' := by
  have hT := Lib.hid (writeTextOf S v l w hS hr hf hl)
  obtain ⟨a, cap, rfl⟩ := hr.slice
  go_enter Tryz.func55, Tryz.ntmps55
  go_wp2_with fail
  refine hT.out.mono ?_
  rintro e w1 ⟨rfl, hb⟩
  go_wp2_with fail
  go_ret
  exact ⟨rfl, hb⟩

set_option maxHeartbeats 2000000 in
set_option maxRecDepth 100000 in
theorem parSourceNext (v : Value) (l : List UInt8) (w : World) (hs : Sl w v (u8s l)) (hl : l.length ≤ 1073741824) :
    Calls Tryz.prog 150 #[v] w fun e w' => e = .returned (.iface 47 (.string (M5.bs (M1.right l)))) ∧ Below w.heap.size w w' := by
  have hT := Lib.hid (utfRight v l w hs hl)
  obtain ⟨a, cap, rfl, -, -⟩ := hs.len8
  clear hs
  go_enter Tryz.func150, Tryz.ntmps150
  go_wp2_with fail
  refine hT.out.mono ?_
  rintro e w1 ⟨rfl, hb⟩
  go_wp2_with fail
  go_ret
  exact ⟨rfl, hb⟩

set_option maxHeartbeats 2000000 in
set_option maxRecDepth 100000 in
theorem parRightNext (s : ByteArray) (w : World) (hg : Glo w) (hs : s.size ≤ 1073741824) :
    Calls Tryz.prog 155 #[.string s] w fun e w' => ∃ v, e = .returned (.iface 161 v) ∧ Toks w' w.heap.size v (M5.tokens s.data.toList) ∧ Below w.heap.size w w' := by
  have hT := Lib.hid (tokTokens s w hg hs)
  go_enter Tryz.func155, Tryz.ntmps155
  go_wp2_with fail
  refine hT.out.mono ?_
  rintro e w1 ⟨v, rfl, hl, hb⟩
  obtain ⟨a, cap, rfl⟩ := hl.slice
  go_wp2_with fail
  go_ret
  exact ⟨_, rfl, hl, hb⟩

set_option maxHeartbeats 2000000 in
set_option maxRecDepth 100000 in
theorem parTokensNext (S : Nat → Prop) (v : Value) (l : List Tok) (w : World) (hS : ∀ b, S b → b < w.heap.size) (hr : TokR S w v l) (hf : FitL l) :
    Calls Tryz.prog 202 #[v] w fun e w' => ∃ v', e = .returned (.iface 44 v') ∧ Fresh w' w.heap.size v' (M7.tree l) ∧ Below w.heap.size w w' := by
  have hT := Lib.hid (bTree S v l w hS hr hf)
  obtain ⟨a, cap, rfl⟩ := hr.slice
  go_enter Tryz.func202, Tryz.ntmps202
  go_wp2_with fail
  refine hT.out.mono ?_
  rintro e w1 ⟨v', rfl, hl, hb⟩
  obtain ⟨a, cap, rfl⟩ := hl.rep.slice
  go_wp2_with fail
  go_ret
  exact ⟨_, rfl, hl, hb⟩

theorem as_source (v : Value) (w : World) : (Instr.typeAssert (.iface 46 v) 57 44 true).run Tryz.prog w = .ok (.tuple #[.slice none 0 0, .bool false]) w := by kernel_rfl
theorem as_right (v : Value) (w : World) : (Instr.typeAssert (.iface 47 v) 57 44 true).run Tryz.prog w = .ok (.tuple #[.slice none 0 0, .bool false]) w := by kernel_rfl
theorem as_tokens (v : Value) (w : World) : (Instr.typeAssert (.iface 161 v) 57 44 true).run Tryz.prog w = .ok (.tuple #[.slice none 0 0, .bool false]) w := by kernel_rfl
theorem as_tree (v : Value) (w : World) : (Instr.typeAssert (.iface 44 v) 57 44 true).run Tryz.prog w = .ok (.tuple #[v, .bool true]) w := by kernel_rfl
theorem as_text (v : Value) (w : World) : (Instr.typeAssert (.iface 47 v) 57 47 false).run Tryz.prog w = .ok v w := by kernel_rfl
theorem in_source (n : Nat) (v : Value) (w : World) : (method (n + 1) 46 v "strainer/parse.next").run Tryz.prog w = .ok (150, v) w := by kernel_rfl
theorem in_right (n : Nat) (v : Value) (w : World) : (method (n + 1) 47 v "strainer/parse.next").run Tryz.prog w = .ok (155, v) w := by kernel_rfl
theorem in_tokens (n : Nat) (v : Value) (w : World) : (method (n + 1) 161 v "strainer/parse.next").run Tryz.prog w = .ok (202, v) w := by kernel_rfl

/-- A document on its way: what it is when it has k steps to go, and what nodes it will be. -/
def St8 (S : Nat → Prop) (w0 wr : World) (L : List Nd) (u : Value) (k : Nat) : Prop :=
  (k = 3 ∧ ∃ v l, u = .iface 46 v ∧ Sl wr v (u8s l) ∧ l.length ≤ 20000 ∧ M7.tree (M5.tokens (M1.right l)) = L) ∨
  (k = 2 ∧ ∃ s : ByteArray, u = .iface 47 (.string s) ∧ s.size ≤ 1073741824 ∧ FitL (M5.tokens s.data.toList) ∧ M7.tree (M5.tokens s.data.toList) = L) ∨
  (k = 1 ∧ ∃ v T, u = .iface 161 v ∧ (∃ B, Toks wr B v T) ∧ FitL T ∧ M7.tree T = L) ∨
  (k = 0 ∧ ∃ v, u = .iface 44 v ∧ RepN (fun b => S b ∨ (w0.heap.size ≤ b ∧ b < wr.heap.size)) wr v L)

set_option maxHeartbeats 4000000 in
set_option maxRecDepth 100000 in
theorem parParsed (S : Nat → Prop) (u : Value) (k : Nat) (L : List Nd) (w : World) (hg : Glo w) (hS : ∀ b, S b → b < w.heap.size) (hu : St8 S w w L u k) :
    Calls Tryz.prog 29 #[u] w (ShrP S L w) := by
  obtain ⟨wo, rfl⟩ : ∃ wo : World, wo = w := ⟨_, rfl⟩
  go_enter Tryz.func29, Tryz.ntmps29
  go_wp2_with fail
  go_loopw [0] (fun u0 wr => ∃ k, St8 S wo wr L u0 k ∧ Below wo.heap.size wo wr) (fun u0 _ => match u0 with | .iface t _ => if t = 46 then 3 else if t = 47 then 2 else if t = 161 then 1 else 0 | _ => 0)
  case atStart => exact ⟨k, hu, Below.refl _ _⟩
  case round =>
    obtain ⟨k, hk, hb⟩ := hrel
    have hz := hb.size
    rcases hk with ⟨-, v, l, rfl, hs, hl, hL⟩ | ⟨-, s, rfl, hs, hfit0, hL⟩ | ⟨-, v, T, rfl, hT, hf, hL⟩ | ⟨-, v, rfl, hr⟩
    · have a1 := as_source v
      have i1 := fun n => in_source n v
      have hC := Lib.hid (parSourceNext v l wr hs (by omega))
      clear hs
      go_wp2_with fail
      refine hC.out.mono ?_
      rintro e w1 ⟨rfl, hb1⟩
      go_wp2_with fail
      go_roundw
      case rel => exact ⟨2, .inr (.inl ⟨rfl, _, rfl, by rw [bs_size]; have := M1.right_len l; omega, by rw [M5.bs_data]; exact (M5.toks_fit _ (by have := M1.right_len l; omega)).1, by rw [M5.bs_data]; exact hL⟩), bt hb hb1⟩
      case measure => exact Nat.lt_of_sub_pos Nat.one_pos
    · have a1 := fun x => as_right x
      have i1 := fun n => in_right n (.string s)
      have hC := Lib.hid (parRightNext s wr (hg.below hb (Nat.le_refl _)) (by omega))
      have hfit := Lib.hid hfit0
      clear hfit0
      go_wp2_with fail
      refine hC.out.mono ?_
      rintro e w1 ⟨v, rfl, hT, hb1⟩
      obtain ⟨a, cap, rfl⟩ := hT.slice
      go_wp2_with fail
      go_roundw
      case rel => exact ⟨1, .inr (.inr (.inl ⟨rfl, _, _, rfl, ⟨_, hT⟩, hfit.out, hL⟩)), bt hb hb1⟩
      case measure => exact Nat.lt_of_sub_pos Nat.one_pos
    · obtain ⟨B, hT⟩ := hT
      have hTR := TokR.ofT hT
      obtain ⟨a, cap, rfl⟩ := hT.slice
      have a1 := fun x => as_tokens x
      have i1 := fun n => in_tokens n (.slice a T.length cap)
      have hC := Lib.hid (parTokensNext _ _ T wr (fun b h => h.2) hTR hf)
      clear hT hTR
      go_wp2_with fail
      refine hC.out.mono ?_
      rintro e w1 ⟨v, rfl, hF, hb1⟩
      have hR := hF.rep
      obtain ⟨a, cap, rfl⟩ := hR.slice
      clear hF
      go_wp2_with fail
      go_roundw
      case rel => exact ⟨0, .inr (.inr (.inr ⟨rfl, _, rfl, by rw [← hL]; exact hR.mono fun b h => .inr ⟨by omega, h.2⟩⟩)), bt hb hb1⟩
      case measure => exact Nat.lt_of_sub_pos Nat.one_pos
    · have a1 := as_tree v
      have hres : ShrP S L wo (.returned v) wr := ⟨v, rfl, hr, hb⟩
      clear hr
      go_wp2_with fail
      go_ret
      exact hres

set_option maxHeartbeats 2000000 in
set_option maxRecDepth 100000 in
theorem parBytes (v : Value) (l : List UInt8) (w : World) (hg : Glo w) (hs : Sl w v (u8s l)) (hl : l.length ≤ 20000) :
    Calls Tryz.prog 11 #[v] w (ShrP (fun _ => False) (M7.tree (M5.tokens (M1.right l))) w) := by
  have hP := Lib.hid (parParsed (fun _ => False) (.iface 46 v) 3 _ w hg (fun _ h => h.elim) (.inl ⟨rfl, v, l, rfl, hs, hl, rfl⟩))
  obtain ⟨a, cap, rfl, -, -⟩ := hs.len8
  clear hs
  go_enter Tryz.func11, Tryz.ntmps11
  go_wp2_with fail
  refine hP.out.mono ?_
  rintro e w1 ⟨v1, rfl, hr, hb⟩
  have hres : ShrP (fun _ => False) (M7.tree (M5.tokens (M1.right l))) w (.returned v1) w1 := ⟨v1, rfl, hr, hb⟩
  obtain ⟨a1, c1, rfl⟩ := hr.slice
  clear hr
  go_wp2_with fail
  go_ret
  exact hres

/-- The text of nodes on their way. -/
def TxtW (out : List UInt8) (w : World) (e : Ending) (w' : World) : Prop := e = .returned (.string ⟨out.toArray⟩) ∧ Below w.heap.size w w'
set_option maxHeartbeats 2000000 in
set_option maxRecDepth 100000 in
theorem parWritten (S : Nat → Prop) (u : Value) (k : Nat) (L : List Nd) (w : World) (hg : Glo w) (hS : ∀ b, S b → b < w.heap.size) (hu : St8 S w w L u k) (hf : FitN L) (hl : (M4.textB false L).length ≤ 70368744177664) :
    Calls Tryz.prog 37 #[u] w (TxtW (M4.textB false L) w) := by
  have hP := Lib.hid (parParsed S u k L w hg hS hu)
  have a1 := fun x => as_text x
  clear hu
  obtain ⟨wo, rfl⟩ : ∃ wo : World, wo = w := ⟨_, rfl⟩
  go_enter Tryz.func37, Tryz.ntmps37
  go_wp2_with fail
  refine hP.out.mono ?_
  rintro e w1 ⟨v1, rfl, hr, hb⟩
  have hz := hb.size
  have hN := Lib.hid (parTreeNext _ v1 L w1 (fun b h => by
    rcases h with h | h
    · have := hS b h; omega
    · exact h.2) hr hf hl)
  obtain ⟨a1', c1, rfl⟩ := hr.slice
  clear hr
  go_wp2_with fail
  refine hN.out.mono ?_
  rintro e w2 ⟨rfl, hb2⟩
  have hb02 := bt hb hb2
  go_wp2_with fail
  go_ret
  exact ⟨rfl, hb02⟩

/-- Nodes, written and parsed. -/
def again (l : List Nd) : List Nd := if M3.mayE false l = 0 then M7.tree (M5.tokens (M4.textB false l)) else []
set_option maxHeartbeats 4000000 in
set_option maxRecDepth 100000 in
theorem parAgain (S : Nat → Prop) (v : Value) (l : List Nd) (w : World) (hg : Glo w) (hS : ∀ b, S b → b < w.heap.size) (hr : RepN S w v l) (hf : FitN l) (hl : (M4.textB false l).length ≤ 1073741824) (hft : FitL (M5.tokens (M4.textB false l))) :
    Calls Tryz.prog 20 #[v] w (ShrP (fun _ => False) (again l) w) := by
  have hM := Lib.hid (domMay S v l w hS hr hf)
  obtain ⟨wo, rfl⟩ : ∃ wo : World, wo = w := ⟨_, rfl⟩
  have hW := Lib.hid (fun W (hb : Below wo.heap.size wo W) => parWritten S (.iface 44 v) 0 l W (hg.below hb (Nat.le_refl _)) (fun b h => by have := hS b h; have := hb.size; omega) (.inr (.inr (.inr ⟨rfl, v, rfl, (hr.below hS hb).mono fun b h => .inl h⟩))) hf (by omega))
  have hP := Lib.hid (fun W (hb : Below wo.heap.size wo W) => parParsed (fun _ => False) (.iface 47 (.string (M5.bs (M4.textB false l)))) 2 (M7.tree (M5.tokens (M4.textB false l))) W (hg.below hb (Nat.le_refl _)) (fun _ h => h.elim) (.inr (.inl ⟨rfl, _, rfl, by rw [bs_size]; exact hl, by rw [M5.bs_data]; exact hft, by rw [M5.bs_data]⟩)))
  obtain ⟨a, cap, rfl⟩ := hr.slice
  clear hr hl
  by_cases hm : M3.mayE false l = 0
  · rw [show again l = M7.tree (M5.tokens (M4.textB false l)) from if_pos hm]
    rw [hm] at hM
    go_enter Tryz.func20, Tryz.ntmps20
    go_wp2_with fail
    refine hM.out.mono ?_
    rintro e w1 ⟨rfl, hb⟩
    have hW1 := Lib.hid (hW.out _ hb)
    clear hW
    go_wp2_with fail
    refine hW1.out.mono ?_
    rintro e w2 ⟨rfl, hb2⟩
    have hb02 := bt hb hb2
    have hP1 := Lib.hid (hP.out _ hb02)
    clear hP
    go_wp2_with fail
    refine hP1.out.mono ?_
    rintro e w3 ⟨v3, rfl, hr3, hb3⟩
    have hz2 := hb02.size
    have hres : Hid (ShrP (fun _ => False) (M7.tree (M5.tokens (M4.textB false l))) wo (.returned v3) w3) := ⟨v3, rfl, hr3.mono fun b h => h.elim (fun h => h.elim) (fun h => .inr ⟨by omega, h.2⟩), bt hb02 hb3⟩
    obtain ⟨a3, c3, rfl⟩ := hr3.slice
    clear hr3
    go_wp2_with fail
    go_ret
    exact hres.out
  · rw [show again l = [] from if_neg hm]
    go_enter Tryz.func20, Tryz.ntmps20
    go_wp2_with fail
    refine hM.out.mono ?_
    rintro e w1 ⟨rfl, hb⟩
    have h0 : decide (M3.mayE false l ≠ 0) = true := decide_eq_true hm
    clear hW hP
    go_wp2_with fail
    go_ret
    exact ⟨_, rfl, RepN.nil _ _, hb⟩
end Go.Proofs.YteefodibpjgicaaGreat

/- Reference 7: one token. -/
namespace Go.Proofs.YteefodibpjgicaaGreat
open Go.RowKit
theorem Ints.take {S : Nat → Prop} {w : World} {a : Option Addr} {n cap : Nat} {l : List Nat} (h : Ints S w (.slice a n cap) l) (i : Nat) (hi : i ≤ l.length) : Ints S w (.slice a i cap) (l.take i) := by
  obtain ⟨h0, a', cap', h1, h2, h3, h4, h5⟩ := h
  cases h1
  refine ⟨by simp, a, cap, by rw [List.length_take, Nat.min_eq_left hi], by rw [List.length_take]; omega, h3, h4, fun hp => ?_⟩
  rw [List.length_take] at hp
  obtain ⟨b, off, e, hb, hx⟩ := h5 (by omega)
  refine ⟨b, off, e, hb, fun j y hj => hx j y ?_⟩
  rw [List.map_take, List.getElem?_take] at hj
  split at hj
  · exact hj
  · cases hj

/-- A call, and a store of a pair of its answer, in whatever order the rest stands. -/
def StK (S : Nat → Prop) (w0 : World) (g : Nat) (l : List Nd) (pv : Value) (f : Nat → Bool) (t : Nat → Value) (W : World) : Prop :=
  (f 11 = false → Below w0.heap.size w0 W ∧ (f 7 = true → RepN (fun b => S b ∨ (w0.heap.size ≤ b ∧ b < W.heap.size)) W (t 7) l)) ∧
  (f 10 = true → f 7 = true ∧ t 10 = .agg #[t 7, pv]) ∧
  (f 11 = true → (∀ j, j < 11 → f j = true) ∧ ∃ W0, Below w0.heap.size w0 W0 ∧ RepN (fun b => S b ∨ (w0.heap.size ≤ b ∧ b < W0.heap.size)) W0 (t 7) l ∧ W = (W0.setCell ⟨g, 0, none⟩ (t 7)).setCell ⟨g, 1, none⟩ pv)

section
variable {S : Nat → Prop} {w0 W : World} {g : Nat} {l : List Nd} {pv : Value} {f : Nat → Bool} {t : Nat → Value}
theorem StK.start (S : Nat → Prop) (w0 : World) (g : Nat) (l : List Nd) (pv : Value) (t : Nat → Value) : StK S w0 g l pv (fun j => decide (12 ≤ j)) t w0.drew :=
  ⟨fun _ => ⟨(Below.refl _ w0).drew, fun h => by simp at h⟩, fun h => by simp at h, fun h => by simp at h⟩

theorem StK.notlast (h : StK S w0 g l pv f t W) {j : Nat} (hj : j < 12) (hf : f j = false) : f 11 = false := by
  cases h10 : f 11
  · rfl
  · rcases (by omega : j < 11 ∨ j = 11) with hl | rfl
    · have := (h.2.2 h10).1 j hl
      rw [hf] at this
      cases this
    · rw [h10] at hf
      cases hf

theorem StK.same (h : StK S w0 g l pv f t W) (j : Nat) (v : Value) (h1 : j ≠ 7) (h2 : j ≠ 10) (h3 : j ≠ 11) : StK S w0 g l pv (updF f j) (updT t j v) W := by
  refine ⟨fun e => ?_, fun e => ?_, fun e => ?_⟩
  · rw [updF_ne f (Ne.symm h3)] at e
    rw [updF_ne f (Ne.symm h1), updT_ne _ _ (Ne.symm h1)]
    exact h.1 e
  · rw [updF_ne f (Ne.symm h2)] at e
    rw [updF_ne f (Ne.symm h1), updT_ne _ _ (Ne.symm h1), updT_ne _ _ (Ne.symm h2)]
    exact h.2.1 e
  · rw [updF_ne f (Ne.symm h3)] at e
    obtain ⟨e1, e2⟩ := h.2.2 e
    rw [updT_ne _ _ (Ne.symm h1)]
    exact ⟨fun k hk => by unfold updF; split; rfl; exact e1 k hk, e2⟩

theorem StK.call (h : StK S w0 g l pv f t W) (hn : f 11 = false) (h7 : f 7 = false) {W' : World} {v : Value} (hv : RepN (fun b => S b ∨ (W.heap.size ≤ b ∧ b < W'.heap.size)) W' v l) (hb : Below W.heap.size W W') : StK S w0 g l pv (updF f 7) (updT t 7 v) W' := by
  obtain ⟨q1, _⟩ := h.1 hn
  have hz := q1.size
  refine ⟨fun _ => ⟨bt q1 hb, fun _ => ?_⟩, fun e => ?_, fun e => ?_⟩
  · rw [updT_same]
    refine hv.mono (fun b hb' => ?_)
    rcases hb' with hb' | hb'
    · exact Or.inl hb'
    · exact Or.inr ⟨by omega, hb'.2⟩
  · rw [updF_ne f (by decide)] at e
    rw [(h.2.1 e).1] at h7
    cases h7
  · rw [updF_ne f (by decide), hn] at e
    cases e

theorem StK.made (h : StK S w0 g l pv f t W) (h7 : f 7 = true) : StK S w0 g l pv (updF f 10) (updT t 10 (.agg #[t 7, pv])) W := by
  refine ⟨fun e => ?_, fun _ => ?_, fun e => ?_⟩
  · rw [updF_ne f (by decide)] at e
    rw [updF_ne f (by decide), updT_ne _ _ (by decide)]
    exact h.1 e
  · rw [updF_ne f (by decide), updT_same, updT_ne _ _ (by decide)]
    exact ⟨h7, rfl⟩
  · rw [updF_ne f (by decide)] at e
    obtain ⟨e1, e2⟩ := h.2.2 e
    rw [updT_ne _ _ (by decide)]
    exact ⟨fun k hk => by unfold updF; split; rfl; exact e1 k hk, e2⟩

theorem StK.put (h : StK S w0 g l pv f t W) (hn : f 11 = false) (hall : ∀ j, j < 11 → f j = true) (v : Value) : StK S w0 g l pv (updF f 11) (updT t 11 v) ((W.setCell ⟨g, 0, none⟩ (t 7)).setCell ⟨g, 1, none⟩ pv) := by
  obtain ⟨q1, q2⟩ := h.1 hn
  refine ⟨fun e => by simp at e, fun e => ?_, fun _ => ⟨fun k hk => by unfold updF; split; rfl; exact hall k hk, W, q1, ?_, ?_⟩⟩
  · rw [updF_ne f (by decide)] at e
    rw [updF_ne f (by decide), updT_ne _ _ (by decide), updT_ne _ _ (by decide)]
    exact h.2.1 e
  · rw [updT_ne _ _ (by decide)]; exact q2 (hall 7 (by decide))
  · rw [updT_ne _ _ (by decide)]
end
end Go.Proofs.YteefodibpjgicaaGreat

/- Layer 7: sizes of what is built. No program in it. -/
namespace Go.Proofs.YteefodibpjgicaaGreat
namespace M7
open M3 (push)
end M7
end Go.Proofs.YteefodibpjgicaaGreat

/- Reference 7: tokens' tree. -/
namespace Go.Proofs.YteefodibpjgicaaGreat
open Go.RowKit
/-- What has been handed in, and what was made behind a box. -/
def Sx (S : Nat → Prop) (wo wr : World) (b : Nat) : Prop := S b ∨ (wo.heap.size < b ∧ b < wr.heap.size)
/-- What the reference holds. -/
def TrV (S : Nat → Prop) (wo W : World) (s : M7.St) (vL vP : Value) : Prop := RepN (Sx S wo W) W vL s.L ∧ Ints (Sx S wo W) W vP (M7.pathN s.d s.L) ∧ Below wo.heap.size wo W
def TrB (S : Nat → Prop) (wo W : World) (s : M7.St) : Prop := ∃ vL vP, TrV S wo W s vL vP ∧ Box W wo.heap.size 84 [vL, vP]
def TrI (S : Nat → Prop) (wo wr : World) (s : M7.St) (f : Nat → Bool) (t : Nat → Value) (W : World) : Prop :=
  (f 5 = false → W = wr.drew) ∧ (f 5 = true → f 6 = false → ∃ vL vP z0 z1, t 5 = .agg #[vL, vP] ∧ TrV S wo W s vL vP ∧ Box W wo.heap.size 84 [z0, z1]) ∧ (f 6 = true → TrB S wo W s)
section
variable {S : Nat → Prop} {wo wr W : World} {s : M7.St} {f : Nat → Bool} {t : Nat → Value} {vL vP : Value}
theorem TrI.same (h : TrI S wo wr s f t W) (i : Nat) (v : Value) (h5 : 5 ≠ i) (h6 : 6 ≠ i) : TrI S wo wr s (updF f i) (updT t i v) W := by
  unfold TrI
  rw [updF_ne _ h5, updF_ne _ h6, updT_ne _ _ h5]
  exact h
theorem TrV.store (h : TrV S wo W s vL vP) {z0 z1 : Value} (hb : Box W wo.heap.size 84 [z0, z1]) (hS : ∀ b, S b → b < wo.heap.size) : TrB S wo ((W.setCell ⟨wo.heap.size, 0, none⟩ vL).setCell ⟨wo.heap.size, 1, none⟩ vP) s := by
  obtain ⟨h1, h2, h3⟩ := h
  have hsz : ((W.setCell ⟨wo.heap.size, 0, none⟩ vL).setCell ⟨wo.heap.size, 1, none⟩ vP).heap.size = W.heap.size := by simp [World.setCell]
  have hk : ∀ b, Sx S wo W b → ((W.setCell ⟨wo.heap.size, 0, none⟩ vL).setCell ⟨wo.heap.size, 1, none⟩ vP).heap[b]? = W.heap[b]? := fun b hb => by
    have hne : b ≠ wo.heap.size := by
      rcases hb with hb | hb
      · have := hS b hb; omega
      · omega
    rw [Below.heap_setCell _ _ _ _ (by simpa using hne), Below.heap_setCell _ _ _ _ (by simpa using hne)]
  have hm : ∀ b, Sx S wo W b → Sx S wo ((W.setCell ⟨wo.heap.size, 0, none⟩ vL).setCell ⟨wo.heap.size, 1, none⟩ vP) b := fun b hb => by
    rcases hb with hb | hb
    · exact Or.inl hb
    · exact Or.inr ⟨hb.1, by rw [hsz]; exact hb.2⟩
  exact ⟨_, _, ⟨(h1.keep hk).mono hm, Row.mono (Row.keep h2 hk) hm, two_below h3 _ _ (Nat.le_refl _)⟩, hb.two _ _⟩
end
end Go.Proofs.YteefodibpjgicaaGreat

/- The reference of layer 4: an element's beginning, a node, texts. -/
namespace Go.Proofs.YteefodibpjgicaaGreat
open Go.RowKit
end Go.Proofs.YteefodibpjgicaaGreat

/- Package parse, and layer 8's reference. -/
namespace Go.Proofs.YteefodibpjgicaaGreat
open Go.RowKit
theorem same_callP {w : World} {va vb : Value} {a b : List Nd} (ha : RepN (fun b => b < w.heap.size) w va a) (hb : RepN (fun b => b < w.heap.size) w vb b) : Calls Tryz.prog 38 #[va, vb] w (SamePost (M3.sameN a b) w) :=
  domSame (M3.weight a + 1) _ a b va vb w (Nat.lt_succ_self _) (fun _ h => h) ha hb
theorem shr_lt {l : List Nd} {w w' : World} {v : Value} (h : RepN (fun b => False ∨ (w.heap.size ≤ b ∧ b < w'.heap.size)) w' v l) : RepN (fun b => b < w'.heap.size) w' v l := h.mono fun _ h => h.elim (fun h => h.elim) (fun h => h.2)

set_option maxHeartbeats 2000000 in
set_option maxRecDepth 100000 in
theorem parKeeps (S : Nat → Prop) (v : Value) (l : List Nd) (w : World) (hg : Glo w) (hS : ∀ b, S b → b < w.heap.size) (hr : RepN S w v l) (hf : FitN l) (hl : (M4.textB false l).length ≤ 1073741824) (hft : FitL (M5.tokens (M4.textB false l))) :
    Calls Tryz.prog 21 #[v] w (SamePost (M3.sameN (again l) l) w) := by
  have hA := Lib.hid (parAgain S v l w hg hS hr hf hl hft)
  obtain ⟨a, cap, rfl⟩ := hr.slice
  obtain ⟨wo, rfl⟩ : ∃ wo : World, wo = w := ⟨_, rfl⟩
  go_enter Tryz.func21, Tryz.ntmps21
  go_wp2_with fail
  refine hA.out.mono ?_
  rintro e w1 ⟨v1, rfl, hr1, hb⟩
  have hz := hb.size
  have hS1 := Lib.hid (same_callP (shr_lt hr1) ((hr.below hS hb).mono fun b h => by have := hS b h; omega))
  obtain ⟨a1, c1, rfl⟩ := hr1.slice
  clear hr1 hr
  go_wp2_with fail
  refine hS1.out.mono ?_
  rintro e w2 ⟨rfl, hb2⟩
  have hb02 := bt hb hb2
  go_wp2_with fail
  go_ret
  exact ⟨rfl, hb02⟩

namespace M5
end M5
end Go.Proofs.YteefodibpjgicaaGreat

/- Layer 8's own example. -/
namespace Go.Proofs.YteefodibpjgicaaGreat
open Go.RowKit
def exB8 : List UInt8 := [60, 112, 62, 97, 60, 100, 105, 118, 62, 98]
def exT8 : List UInt8 := [60, 112, 62, 97, 60, 47, 112, 62, 60, 100, 105, 118, 62, 98, 60, 47, 100, 105, 118, 62]
def exA8 : Nd := .mk 2 ⟨#[]⟩ [] ⟨#[97]⟩ []
def exC8 : Nd := .mk 2 ⟨#[]⟩ [] ⟨#[98]⟩ []
def exP8 : Nd := .mk 1 ⟨#[112]⟩ [] ⟨#[]⟩ [exA8]
def exD8 : Nd := .mk 1 ⟨#[100, 105, 118]⟩ [] ⟨#[]⟩ [exC8]
def exL8 : List Nd := [exP8, exD8]
theorem ex8_toks : M5.tokens exB8 = [⟨1, ⟨#[112]⟩, [], ⟨#[]⟩⟩, ⟨3, ⟨#[]⟩, [], ⟨#[97]⟩⟩, ⟨1, ⟨#[100, 105, 118]⟩, [], ⟨#[]⟩⟩, ⟨3, ⟨#[]⟩, [], ⟨#[98]⟩⟩] := by kernel_rfl
theorem ex8_tree : M7.tree [⟨1, ⟨#[112]⟩, [], ⟨#[]⟩⟩, ⟨3, ⟨#[]⟩, [], ⟨#[97]⟩⟩, ⟨1, ⟨#[100, 105, 118]⟩, [], ⟨#[]⟩⟩, ⟨3, ⟨#[]⟩, [], ⟨#[98]⟩⟩] = exL8 := by kernel_rfl
theorem ex8_text : M4.textB false exL8 = exT8 := by kernel_rfl
theorem ex8_again : M7.tree (M5.tokens exT8) = exL8 := by kernel_rfl
theorem ex8_right : M1.right exB8 = exB8 := by kernel_rfl
theorem ex8_may : M3.mayE false exL8 = 0 := by kernel_rfl
theorem ex8_keeps : again exL8 = exL8 := by
  unfold again
  rw [if_pos ex8_may, ex8_text, ex8_again]
theorem ex8_fit : FitN exL8 := by
  have h0' : M3.weight exA8.kids = 0 := by kernel_rfl
  have h0'' : M3.weight exC8.kids = 0 := by kernel_rfl
  have h1 : M3.weight exP8.kids = 1 := by kernel_rfl
  have h2 : M3.weight exD8.kids = 1 := by kernel_rfl
  refine fitN_cons.2 ⟨⟨by decide, by decide, ?_, by rw [h1]; decide⟩, fitN_cons.2 ⟨⟨by decide, by decide, ?_, by rw [h0']; decide⟩, fitN_nil, fitN_nil⟩, fitN_cons.2 ⟨⟨by decide, by decide, ?_, by rw [h2]; decide⟩, fitN_cons.2 ⟨⟨by decide, by decide, ?_, by rw [h0'']; decide⟩, fitN_nil, fitN_nil⟩, fitN_nil⟩⟩
  · intro a ha; simp [exP8, Nd.attrs] at ha
  · intro a ha; simp [exA8, Nd.attrs] at ha
  · intro a ha; simp [exD8, Nd.attrs] at ha
  · intro a ha; simp [exC8, Nd.attrs] at ha

set_option maxHeartbeats 4000000 in
set_option maxRecDepth 100000 in
theorem lives08 (w : World) (hg : Glo w) : Calls Tryz.prog 15 #[] w fun e w' => e = .returned (.bool true) ∧ Below w.heap.size w w' := by
  obtain ⟨wo, rfl⟩ : ∃ wo : World, wo = w := ⟨_, rfl⟩
  have hcv := fun (w : World) (C : Array Value) (n c : Nat) => Lib.run_convert_bytes_const (P := Tryz.prog) w 22 5 C n c Tryz.underlying22 Tryz.underlying5
  obtain ⟨w1, hw1⟩ : ∃ W, wo.alloc (.cells (u8s exB8).toArray 5 (10, 11)) = W := ⟨_, rfl⟩
  have bx : w1.heap[wo.heap.size]? = some (.cells (u8s exB8).toArray 5 (10, 11)) := by rw [← hw1]; exact heap_alloc_new wo _
  have hb1 : Below wo.heap.size wo w1 := by rw [← hw1]; exact (Below.refl _ _).alloc (Nat.le_refl _) _
  have hSl : Sl w1 (.slice (some ⟨wo.heap.size, 0, none⟩) 10 10) (u8s exB8) := by
    refine ⟨some ⟨wo.heap.size, 0, none⟩, 10, rfl, by decide, by decide, by simp, fun _ => ⟨wo.heap.size, 0, rfl, fun j hj => ?_⟩⟩
    rw [Nat.zero_add, cell_of_row w1 wo.heap.size j _ _ _ bx]
    simp
  have hP := Lib.hid (parBytes _ exB8 w1 (hg.below hb1 (Nat.le_refl _)) hSl (by decide))
  rw [ex8_right, ex8_toks, ex8_tree] at hP
  clear hSl bx
  go_enter Tryz.func15, Tryz.ntmps15
  go_wp2_with fail
  rw [show wo.alloc (.cells #[.int .u8 60, .int .u8 112, .int .u8 62, .int .u8 97, .int .u8 60, .int .u8 100, .int .u8 105, .int .u8 118, .int .u8 62, .int .u8 98] 5 (10, 11)) = w1 from hw1]
  clear hw1
  go_wp2_with fail
  refine hP.out.mono ?_
  rintro e w2 ⟨v2, rfl, hr2, hb2⟩
  have hR := shr_lt hr2
  have hb02 := bt hb1 hb2
  have hK := Lib.hid (parKeeps _ v2 exL8 w2 (hg.below hb02 (Nat.le_refl _)) (fun b h => h) hR ex8_fit (by rw [ex8_text]; decide) (M5.toks_fit _ (by rw [ex8_text]; decide)).1)
  rw [ex8_keeps, M3.sameN_self] at hK
  obtain ⟨a5, c5, rfl⟩ := hR.slice
  obtain ⟨b5, o5, va5, vk5, rfl, -, -, y1, -, -, y4, hrv⟩ := hR.at_ 0 (by decide)
  obtain ⟨b5', o5', va5', vk5', e5, -, -, z1, -, -, -, -⟩ := hR.at_ 1 (by decide)
  cases e5
  simp only [Nat.zero_mul, Nat.one_mul, Nat.add_zero] at y1 y4 z1
  obtain ⟨ak, ck, rfl⟩ := hrv.2.slice
  obtain ⟨b6, o6, va6, vk6, rfl, -, -, -, -, x3, -, -⟩ := hrv.2.at_ 0 (by decide)
  simp only [Nat.zero_mul, Nat.add_zero] at x3
  replace y1 : w2.cell? ⟨b5, o5 + 1, none⟩ = some (.string ⟨#[112]⟩) := y1
  replace y4 : w2.cell? ⟨b5, o5 + 4, none⟩ = some (.slice (some ⟨b6, o6, none⟩) 1 ck) := y4
  replace z1 : w2.cell? ⟨b5, o5 + 5 + 1, none⟩ = some (.string ⟨#[100, 105, 118]⟩) := z1
  replace x3 : w2.cell? ⟨b6, o6 + 3, none⟩ = some (.string ⟨#[97]⟩) := x3
  clear hr2 hR hrv hP
  change Hid (Calls Tryz.prog 21 #[.slice (some ⟨b5, o5, none⟩) 2 c5] w2 (SamePost true w2)) at hK
  go_wp2_with fail
  refine hK.out.mono ?_
  rintro e w3 ⟨rfl, hb3⟩
  have hb03 := bt hb02 hb3
  go_wp2_with fail
  go_ret
  exact ⟨rfl, hb03⟩

set_option maxHeartbeats 2000000 in
set_option maxRecDepth 100000 in
theorem few08 (v : Value) (l : List UInt8) (w : World) (hs : Sl w v (u8s l)) : Calls Tryz.prog 9 #[v] w fun e w' => w' = w ∧ ∃ v', e = .returned v' ∧ Sl w v' (u8s (l.take 300)) := by
  obtain ⟨a, cap, rfl, hlc, hcm⟩ := hs.len8
  by_cases hgt : 300 < l.length
  · have hT := Lib.hid (hs.take8 300 (by omega))
    have hgti : decide ((300 : Int) < (l.length : Int)) = true := decide_eq_true (by omega)
    have hz : ∃ p, a = some p := by
      obtain ⟨a', c', e, h1, h2, h3, h4⟩ := hs
      simp only [Value.slice.injEq] at e
      obtain ⟨rfl, -, rfl⟩ := e
      cases a with
      | none => have := h3 rfl; omega
      | some p => exact ⟨p, rfl⟩
    obtain ⟨p, rfl⟩ := hz
    have h21 : (300 : Int) ≤ (cap : Int) := by omega
    clear hs
    go_enter Tryz.func9, Tryz.ntmps9
    go_wp2_with fail
    go_ret
    exact ⟨rfl, _, rfl, hT.out⟩
  · have hgti : decide ((300 : Int) < (l.length : Int)) = false := decide_eq_false (by omega)
    have hT : Hid (Sl w (.slice a l.length cap) (u8s (l.take 300))) := by rw [List.take_of_length_le (by omega)]; exact hs
    clear hs
    go_enter Tryz.func9, Tryz.ntmps9
    go_wp2_with fail
    go_ret
    exact ⟨rfl, _, rfl, hT.out⟩
end Go.Proofs.YteefodibpjgicaaGreat

/- Law 7: nodes that have their shape. -/
namespace Go.Proofs.YteefodibpjgicaaGreat
open Go.RowKit
end Go.Proofs.YteefodibpjgicaaGreat

/- Layer 7: a tree has its shape. No program in it. -/
namespace Go.Proofs.YteefodibpjgicaaGreat
namespace M7
open M3 (isText withText cat push)
def lastT (pt : Bool) (L : List Nd) : Bool := match L.getLast? with | some y => y.kind == 2 | none => pt
theorem lastT_cons (pt : Bool) (y : Nd) (r : List Nd) : lastT pt (y :: r) = lastT (y.kind == 2) r := by
  unfold lastT
  rw [List.getLast?_cons]
  cases r.getLast? <;> rfl
theorem lastT_snoc (pt : Bool) (A : List Nd) (y : Nd) : lastT pt (A ++ [y]) = (y.kind == 2) := by unfold lastT; simp
def lastN (p : ByteArray) (o : List ByteArray) : ByteArray := o.getLast?.getD p
theorem lastN_cons (p x : ByteArray) (o : List ByteArray) : lastN p (x :: o) = lastN x o := by unfold lastN; rw [List.getLast?_cons]; rfl
theorem closeAt_stop (o : List ByteArray) (b : ByteArray) (n : Nat) : closeAt o b n = 0 ∨ M6.closesB (o.getD (closeAt o b n - 1) ⟨#[]⟩).data.toList b.data.toList = false := by
  induction n with
  | zero => exact .inl rfl
  | succ n ih =>
    rw [closeAt]
    split
    · exact ih
    · rename_i h
      exact .inr (by simpa using h)
theorem lastN_take {o : List ByteArray} {n : Nat} (hn : n ≤ o.length) : lastN ⟨#[]⟩ (o.take n) = if n = 0 then ⟨#[]⟩ else o.getD (n - 1) ⟨#[]⟩ := by
  unfold lastN
  split
  · rename_i h; rw [h]; rfl
  · rename_i h
    rw [List.getLast?_eq_getElem?, List.length_take, Nat.min_eq_left hn, List.getElem?_take, if_pos (by omega)]
    rfl
end M7
end Go.Proofs.YteefodibpjgicaaGreat

/- Layer 8: nodes' tokens, built again, are they. No program in it. -/
namespace Go.Proofs.YteefodibpjgicaaGreat
namespace M7
open M3 (isText withText cat push mayE oneE)
/-- What stands ahead of an element's kids. -/
def begT (x : Nd) : Tok := ⟨1, x.name, x.attrs, ⟨#[]⟩⟩
def endT (x : Nd) : Tok := ⟨2, x.name, [], ⟨#[]⟩⟩
def toksN : List Nd → List Tok
  | [] => []
  | .mk k n a t ks :: r =>
    (if k = 1 then ⟨1, n, a, ⟨#[]⟩⟩ :: (if M3.voidB n.data.toList then [] else toksN ks ++ [⟨2, n, [], ⟨#[]⟩⟩])
     else if k = 2 then [⟨3, ⟨#[]⟩, [], t⟩] else [⟨4, ⟨#[]⟩, [], t⟩]) ++ toksN r
termination_by l => SizeOf.sizeOf l
def tokOne (x : Nd) : List Tok :=
  if x.kind = 1 then begT x :: (if M3.voidB x.name.data.toList then [] else toksN x.kids ++ [endT x])
  else if x.kind = 2 then [⟨3, ⟨#[]⟩, [], x.text⟩] else [⟨4, ⟨#[]⟩, [], x.text⟩]
theorem toksN_nil : toksN [] = [] := by rw [toksN]
theorem toksN_cons (x : Nd) (r : List Nd) : toksN (x :: r) = tokOne x ++ toksN r := by cases x; rw [toksN]; rfl

theorem may_cons {p : Bool} {x : Nd} {r : List Nd} (h : mayE p (x :: r) = 0) : oneE x p = 0 ∧ mayE false x.kids = 0 ∧ mayE (x.kind == 2) r = 0 := by
  rw [M3.mayE_cons] at h
  by_cases h1 : oneE x p = 0
  · by_cases h2 : mayE false x.kids = 0
    · rw [if_neg (by simp [h1]), if_neg (by simp [h2])] at h
      exact ⟨h1, h2, h⟩
    · rw [if_neg (by simp [h1]), if_pos h2] at h
      exact absurd h h2
  · rw [if_pos h1] at h
    exact absurd h h1
theorem nil_of {s : ByteArray} (h : M3.nilB s = true) : s = ⟨#[]⟩ := by
  rw [M3.nilB_data'] at h
  cases s with
  | mk d => cases d with
    | mk l => cases l with
      | nil => rfl
      | cons a r => simp at h
/-- The three kinds of nodes that may be. -/
theorem one_kinds {x : Nd} {p : Bool} (h : oneE x p = 0) :
    (x.kind = 1 ∧ x.text = ⟨#[]⟩ ∧ M3.namedB x.name.data.toList = true ∧ M3.namesE [] x.attrs = 0 ∧ M3.valuesE x.attrs = 0) ∨
    (x.kind = 2 ∧ x = .mk 2 ⟨#[]⟩ [] x.text [] ∧ M1.isB x.text.data.toList = true ∧ M3.nilB x.text = false ∧ p = false) ∨
    (x.kind = 3 ∧ x = .mk 3 ⟨#[]⟩ [] x.text [] ∧ M1.isB x.text.data.toList = true) := by
  unfold oneE at h
  have pl : ∀ k, x.kind = k → M3.plainB x = true → x = .mk k ⟨#[]⟩ [] x.text [] := fun k hk hp => by
    unfold M3.plainB at hp
    simp only [Bool.and_eq_true, List.isEmpty_iff] at hp
    obtain ⟨⟨h1, h2⟩, h3⟩ := hp
    have h1 := nil_of h1
    cases x with
    | mk kk n a t ks =>
      have hk : kk = k := hk
      have h1 : n = ⟨#[]⟩ := h1
      have h2 : a = [] := h2
      have h3 : ks = [] := h3
      subst hk h1 h2 h3
      rfl
  by_cases h1 : x.kind = 1
  · rw [if_pos h1] at h
    unfold M3.elemE at h
    left
    cases ht : M3.nilB x.text
    · simp [ht] at h
    · cases hn : M3.namedB x.name.data.toList
      · simp [ht, hn] at h
      · rw [ht, hn, if_pos rfl, if_pos rfl] at h
        by_cases ha : M3.namesE [] x.attrs = 0
        · rw [if_pos ha] at h
          exact ⟨h1, nil_of ht, rfl, ha, h⟩
        · rw [if_neg ha] at h
          exact absurd h ha
  rw [if_neg h1] at h
  by_cases h2 : x.kind = 2
  · rw [if_pos h2] at h
    right; left
    cases hp : M3.plainB x
    · simp [hp] at h
    · rw [hp, if_pos rfl] at h
      cases hb : M1.isB x.text.data.toList
      · simp [hb] at h
      · rw [hb] at h
        cases hn : M3.nilB x.text
        · cases hq : p
          · exact ⟨h2, pl 2 h2 hp, rfl, rfl, rfl⟩
          · simp [hn, hq] at h
        · simp [hn] at h
  rw [if_neg h2] at h
  by_cases h3 : x.kind = 3
  · rw [if_pos h3] at h
    right; right
    cases hp : M3.plainB x
    · simp [hp] at h
    · cases hb : M1.isB x.text.data.toList
      · simp [hp, hb] at h
      · exact ⟨h3, pl 3 h3 hp, rfl⟩
  · simp [if_neg h3] at h
theorem may_apart {l : List Nd} {p : Bool} (h : mayE p l = 0) : M3.apart p l = true := (M6.ok_of_may l p h).2

/-- More nodes, one behind the other. -/
def putAll (d : Nat) (l : List Nd) (L : List Nd) : List Nd := l.foldl (fun L x => putN d x L) L
theorem wk_wk7 (x : Nd) (a b : List Nd) : wk (wk x a) b = wk x b := rfl
theorem putAll_snoc (d : Nat) (A : List Nd) (x : Nd) (l : List Nd) : putAll (d + 1) l (A ++ [x]) = A ++ [wk x (putAll d l x.kids)] := by
  induction l generalizing x with
  | nil => show A ++ [x] = A ++ [wk x x.kids]; cases x; rfl
  | cons y r ih =>
    show putAll (d + 1) r (putN (d + 1) y (A ++ [x])) = _
    rw [putN_snoc, ih]
    rfl
theorem putAll_kids {d : Nat} : ∀ {L : List Nd} (e : Nd) (ks : List Nd), okD d L → isText e = false → putAll (d + 1) ks (putN d e L) = putN d (wk e (ks.foldl push e.kids)) L := by
  induction d with
  | zero =>
    intro L e ks _ he
    have hp : ∀ e : Nd, isText e = false → push L e = L ++ [e] := fun e he => push_node e he
    show putAll 1 ks (push L e) = push L _
    rw [hp e he, hp _ (by exact he), putAll_snoc]
    rfl
  | succ d ih =>
    intro L e ks hok he
    rcases List.eq_nil_or_concat L with rfl | ⟨A, y, rfl⟩
    · exact hok.elim
    · rw [List.concat_eq_append] at *
      rw [okD_snoc] at hok
      rw [putN_snoc, putN_snoc, putAll_snoc, wk_wk7]
      show A ++ [wk y (putAll (d + 1) ks (putN d e y.kids))] = _
      rw [ih e ks hok he]
theorem closed_none (b : List UInt8) : M6.closesB [] b = false := by
  unfold M6.closesB M6.closedL
  simp
theorem closeAt_last {o : List ByteArray} {b : ByteArray} {d : Nat} (hd : o.length = d) (h : M6.closesB (lastN ⟨#[]⟩ o).data.toList b.data.toList = false) : closeAt o b d = d := by
  cases d with
  | zero => rfl
  | succ d =>
    rw [closeAt, if_neg]
    have : lastN ⟨#[]⟩ o = o.getD d ⟨#[]⟩ := by
      have := lastN_take (o := o) (n := d + 1) (by omega)
      rw [List.take_of_length_le (by omega), if_neg (by omega)] at this
      exact this
    rw [← this, h]
    simp
theorem endAt_last (o : List ByteArray) (nm : ByteArray) : endAt (o ++ [nm]) nm (o.length + 1) = some o.length := by
  rw [endAt, if_pos]
  simp
/-- What tokens of nodes do. -/
theorem run_nodes (l : List Nd) : ∀ (L : List Nd) (d : Nat) (p : Bool), okD d L → (∀ x ∈ l, x.kind = 1 → M6.closesB (lastN ⟨#[]⟩ (openN d L)).data.toList x.name.data.toList = false) → M6.allB l = true → mayE p l = 0 →
    (toksN l).foldl step ⟨L, d⟩ = ⟨putAll d l L, d⟩ := by
  induction l using Nd.ind with
  | h0 => intro L d p _ _ _ _; rw [toksN_nil]; rfl
  | h1 k n a t ks r ih1 ih2 =>
    intro L d p hok hc hall hmay
    obtain ⟨m1, m2, m3⟩ := may_cons hmay
    rw [M6.allB_cons, Bool.and_eq_true] at hall
    obtain ⟨a1, a2⟩ := hall
    unfold M6.oneS at a1
    simp only [Bool.and_eq_true] at a1
    obtain ⟨-, a3, a4⟩ := a1
    rw [toksN_cons, List.foldl_append]
    have key : (tokOne (.mk k n a t ks)).foldl step ⟨L, d⟩ = ⟨putN d (.mk k n a t ks) L, d⟩ := by
      rcases one_kinds m1 with ⟨hk, ht, -⟩ | ⟨hk, hx, -⟩ | ⟨hk, hx, -⟩
      · have hk : k = 1 := hk
        have ht : t = ⟨#[]⟩ := ht
        subst hk ht
        have hol := openN_len hok
        have hcl := closeAt_last hol (hc (.mk 1 n a ⟨#[]⟩ ks) (by simp) rfl)
        have hs1 : step ⟨L, d⟩ (begT (.mk 1 n a ⟨#[]⟩ ks)) = ⟨putN d (.mk 1 n a ⟨#[]⟩ []) L, if M3.voidB n.data.toList then d else d + 1⟩ := by
          unfold step
          rw [if_pos (show (begT (.mk 1 n a ⟨#[]⟩ ks)).kind = 1 from rfl)]
          show (⟨putN (closeAt (openN d L) n d) _ L, if _ then closeAt (openN d L) n d else closeAt (openN d L) n d + 1⟩ : St) = _
          rw [show closeAt (openN d L) n d = d from hcl]
          rfl
        unfold tokOne
        rw [if_pos (show (Nd.mk 1 n a ⟨#[]⟩ ks).kind = 1 from rfl)]
        show (if M3.voidB n.data.toList then [] else toksN ks ++ [endT (.mk 1 n a ⟨#[]⟩ ks)]).foldl step (step ⟨L, d⟩ _) = _
        rw [hs1]
        cases hv : M3.voidB n.data.toList
        · rw [if_neg Bool.false_ne_true, if_neg Bool.false_ne_true, List.foldl_append]
          obtain ⟨o1, o2, -⟩ := put_open (.mk 1 n a ⟨#[]⟩ []) hok rfl
          have hln : lastN ⟨#[]⟩ (openN (d + 1) (putN d (.mk 1 n a ⟨#[]⟩ []) L)) = n := by
            rw [o2]; unfold lastN; simp; rfl
          rw [ih1 _ (d + 1) false o1 (fun x hx hk => by
            rw [hln]
            have h := List.all_eq_true.1 a3 x hx
            unfold M6.fitsB at h
            change (if M3.voidB n.data.toList = true then false else if M3.rawB n.data.toList = true then isText x && _ else !(decide (x.kind = 1) && M6.closesB n.data.toList x.name.data.toList)) = true at h
            rw [hv, if_neg Bool.false_ne_true] at h
            split at h
            · rw [Bool.and_eq_true] at h
              have : x.kind = 2 := by simpa [isText] using h.1
              omega
            · simpa [hk] using h) a4 m2]
          have hks : putAll (d + 1) ks (putN d (.mk 1 n a ⟨#[]⟩ []) L) = putN d (.mk 1 n a ⟨#[]⟩ ks) L := by
            rw [putAll_kids _ ks hok rfl]
            have hm : ks.foldl push [] = ks := by
              have := M3.merge_apart ks [] (fun y h => by simp at h) (may_apart m2)
              simpa using this
            show putN d (wk (.mk 1 n a ⟨#[]⟩ []) (ks.foldl push [])) L = _
            rw [hm]
            rfl
          rw [hks]
          obtain ⟨q1, q2, -⟩ := put_open (.mk 1 n a ⟨#[]⟩ ks) hok rfl
          show step _ (endT _) = _
          unfold step
          rw [if_neg (show ¬ (endT (.mk 1 n a ⟨#[]⟩ ks)).kind = 1 by show ¬ (2 : Int) = 1; decide), if_pos (show (endT (.mk 1 n a ⟨#[]⟩ ks)).kind = 2 from rfl)]
          show (match endAt (openN (d + 1) (putN d _ L)) n (d + 1) with | some i => (⟨_, i⟩ : St) | none => _) = _
          rw [q2]
          have := endAt_last (openN d L) n
          rw [hol] at this
          rw [show (openN d L ++ [(Nd.mk 1 n a ⟨#[]⟩ ks).name]) = openN d L ++ [n] from rfl, this]
        · have hks : ks = [] := by
            cases ks with
            | nil => rfl
            | cons x r =>
              have h := List.all_eq_true.1 a3 x (by show x ∈ x :: r; simp)
              unfold M6.fitsB at h
              rw [show (Nd.mk 1 n a ⟨#[]⟩ (x :: r)).name = n from rfl, hv] at h
              simp at h
          subst hks
          rfl
      · unfold tokOne
        have hk : k = 2 := hk
        rw [if_neg (show ¬ (Nd.mk k n a t ks).kind = 1 by show ¬ k = 1; omega), if_pos (show (Nd.mk k n a t ks).kind = 2 from hk), hx]
        rfl
      · unfold tokOne
        have hk : k = 3 := hk
        rw [if_neg (show ¬ (Nd.mk k n a t ks).kind = 1 by show ¬ k = 1; omega), if_neg (show ¬ (Nd.mk k n a t ks).kind = 2 by show ¬ k = 2; omega), hx]
        rfl
    rw [key]
    obtain ⟨k1, k2, -⟩ := put_keeps (.mk k n a t ks) hok
    rw [ih2 _ d _ k1 (fun x hx => by rw [k2]; exact hc x (by simp [hx])) a2 m3]
    rfl
/-- Nodes' tokens, built, are they. -/
theorem tree_nodes {l : List Nd} (hall : M6.allB l = true) (hmay : mayE false l = 0) : tree (toksN l) = l := by
  show ((toksN l).foldl step ⟨[], 0⟩).L = l
  rw [run_nodes l [] 0 false trivial (fun x _ _ => closed_none _) hall hmay]
  show l.foldl push [] = l
  have := M3.merge_apart l [] (fun y h => by simp at h) (may_apart hmay)
  simpa using this
end M7
end Go.Proofs.YteefodibpjgicaaGreat

/- Tokens by definitions: a written text is one token of characters. -/
namespace Go.Proofs.YteefodibpjgicaaGreat.M5
theorem esc_lt (v : Bool) (c : UInt8) : ∀ x ∈ M2.esc v c, x ≠ 60 := by
  unfold M2.esc
  split
  · decide
  split
  · decide
  split
  · decide
  split
  · decide
  · rename_i h1 h2 h3 h4
    intro x hx
    simp at hx
    subst hx
    exact h2
theorem escape_lt (v : Bool) (l : List UInt8) : ∀ x ∈ M2.escape v l, x ≠ 60 := by
  intro x hx
  obtain ⟨c, _, h⟩ := List.mem_flatMap.1 hx
  exact esc_lt v c x h
theorem plainN_upto (a b : List UInt8) (h : ∀ x ∈ a, x ≠ 60) : plainN (a ++ b) = a.length + plainN b := by
  have := plainN_skip a.length (a ++ b) (by simp) (fun k hk => by
    cases hs : startsB ((a ++ b).drop k)
    · rfl
    · obtain ⟨t, ht⟩ := starts_head _ hs
      rw [List.drop_append_of_le_length (by omega)] at ht
      rw [List.drop_eq_getElem_cons hk] at ht
      exact absurd (List.cons.inj ht).1 (h _ (List.getElem_mem hk)))
  rw [this]
  congr 2
  simp
theorem escape_ne (v : Bool) (l : List UInt8) (h : l ≠ []) : M2.escape v l ≠ [] := by
  intro e
  have := congrArg M2.decode e
  rw [M2.decode_escape, M2.decode_nil] at this
  exact h this
end Go.Proofs.YteefodibpjgicaaGreat.M5

/- Tokens by definitions: one beginning tag, spelt in two ways. -/
namespace Go.Proofs.YteefodibpjgicaaGreat.M5
theorem quoted_own (q : UInt8) (v t : List UInt8) (h : ∀ x ∈ v, x ≠ q) : quoted q (v ++ q :: t) = (v, t) := by
  unfold quoted
  induction v with
  | nil => simp
  | cons c r ih =>
    have hc : (c != q) = true := bne_iff_ne.2 (h c (by simp))
    have := ih (fun x hx => h x (by simp [hx]))
    simp only [Prod.mk.injEq] at this
    rw [List.cons_append, List.takeWhile_cons, List.dropWhile_cons, hc, if_pos rfl, if_pos rfl, this.1, this.2]
end Go.Proofs.YteefodibpjgicaaGreat.M5

/- Tokens by definitions: written elements without kids are told as their tags. -/
namespace Go.Proofs.YteefodibpjgicaaGreat.M5
theorem tw_all (q : UInt8 → Bool) (a : List UInt8) (x : UInt8) (b : List UInt8) (h : ∀ c ∈ a, q c = true) (hx : q x = false) : (a ++ x :: b).takeWhile q = a ∧ (a ++ x :: b).dropWhile q = x :: b := by
  induction a with
  | nil => rw [List.nil_append, List.takeWhile_cons, List.dropWhile_cons, hx]; exact ⟨rfl, rfl⟩
  | cons c r ih =>
    obtain ⟨i1, i2⟩ := ih (fun y hy => h y (by simp [hy]))
    rw [List.cons_append, List.takeWhile_cons, List.dropWhile_cons, h c (by simp), if_pos rfl, if_pos rfl, i1, i2]
    exact ⟨rfl, rfl⟩
theorem small_own {c : UInt8} (h : M3.capB c = false) : M1.small c = c := by
  unfold M3.capB at h
  unfold M1.small
  rw [if_neg]
  simpa using h
theorem fold_own (l : List UInt8) (h : ∀ c ∈ l, M3.capB c = false) : M1.fold l = l := by
  unfold M1.fold
  induction l with
  | nil => rfl
  | cons c r ih => rw [List.map_cons, small_own (h c (by simp)), ih (fun y hy => h y (by simp [hy]))]
theorem att_facts {l : List UInt8} (h : M3.attributedB l = true) : (∃ c r, l = c :: r) ∧ (∀ c ∈ l, M3.capB c = false) ∧ ∀ c ∈ l, keyB c = true ∧ c ≠ 62 := by
  unfold M3.attributedB at h
  rw [Bool.and_eq_true, Bool.and_eq_true, Bool.and_eq_true] at h
  obtain ⟨h1, ⟨_, h2⟩, h3⟩ := h
  refine ⟨?_, fun c hc => ?_, fun c hc => ?_⟩
  · cases l with
    | nil => cases h1
    | cons c r => exact ⟨c, r, rfl⟩
  · have := List.any_eq_false.1 (by simpa using h2) c hc
    simpa using this
  · have := List.any_eq_false.1 (show l.any M3.badB = false by simpa using h3) c hc
    have hb : M3.badB c = false := by simpa using this
    unfold M3.badB at hb
    simp only [Bool.or_eq_false_iff] at hb
    obtain ⟨⟨⟨⟨⟨⟨b9, b10⟩, b12⟩, b32⟩, b47⟩, b62⟩, b61⟩ := hb
    have key : ∀ d : UInt8, (c.toNat == d.toNat) = false → (c == d) = false := fun d hd => by
      rw [beq_eq_false_iff_ne] at hd ⊢
      intro e
      exact hd (by rw [e])
    have k62 := key 62 b62
    refine ⟨?_, beq_eq_false_iff_ne.1 k62⟩
    unfold keyB stopB blankB
    rw [key 9 b9, key 10 b10, key 12 b12, key 32 b32, key 47 b47, k62, key 61 b61]
    rfl
theorem name_facts {l : List UInt8} (h : M3.namedB l = true) : (∃ c r, l = c :: r ∧ letterB c = true) ∧ (∀ c ∈ l, M3.capB c = false) ∧ ∀ c ∈ l, nameB c = true := by
  cases l with
  | nil => cases h
  | cons c r =>
    have h' : (M3.smallB c && r.all M3.nameB) = true := h
    rw [Bool.and_eq_true] at h'
    obtain ⟨h1, h2⟩ := h'
    have hs : ∀ d : UInt8, M3.smallB d = true → letterB d = true ∧ M3.capB d = false ∧ nameB d = true := fun d hd => by
      unfold M3.smallB at hd
      have hd := of_decide_eq_true hd
      have hl : letterB d = true := by unfold letterB; simp; omega
      refine ⟨hl, ?_, ?_⟩
      · unfold M3.capB; simp; omega
      · unfold nameB; rw [hl]; rfl
    have hn : ∀ d : UInt8, M3.nameB d = true → M3.capB d = false ∧ nameB d = true := fun d hd => by
      unfold M3.nameB at hd
      rw [Bool.or_eq_true] at hd
      rcases hd with hd | hd
      · exact ⟨(hs d hd).2.1, (hs d hd).2.2⟩
      · have hd := of_decide_eq_true hd
        refine ⟨by unfold M3.capB; simp; omega, ?_⟩
        unfold nameB
        rcases hd with h45 | h48
        · have : d = 45 := UInt8.toNat_inj.1 h45
          subst this
          decide
        · rw [show decide (48 ≤ d.toNat ∧ d.toNat ≤ 57) = true from decide_eq_true h48]
          simp
    refine ⟨⟨c, r, rfl, (hs c h1).1⟩, fun d hd => ?_, fun d hd => ?_⟩
    · rcases List.mem_cons.1 hd with rfl | hd
      · exact (hs _ h1).2.1
      · exact (hn _ (List.all_eq_true.1 h2 _ hd)).1
    · rcases List.mem_cons.1 hd with rfl | hd
      · exact (hs _ h1).2.2
      · exact (hn _ (List.all_eq_true.1 h2 _ hd)).2
theorem key_over {c : UInt8} (h : keyB c = true) : overB c = false := by
  unfold keyB stopB at h
  unfold overB
  revert h
  cases blankB c <;> cases (c == 47) <;> cases (c == 62) <;> cases (c == 61) <;> simp
theorem attB_step (a : Att) (rest : List UInt8) (acc : List Att) (h : M3.attributedB a.name.data.toList = true) : attsR (M4.attB a ++ rest) acc = attsR rest (addT acc a) := by
  obtain ⟨⟨c, r, hc⟩, hcap, hk⟩ := att_facts h
  obtain ⟨X, hX⟩ : ∃ X, X = a.name.data.toList ++ 61 :: (34 :: (M2.escape true a.value.data.toList ++ 34 :: rest)) := ⟨_, rfl⟩
  have e1 : M4.attB a ++ rest = 32 :: X := by rw [hX]; unfold M4.attB; simp
  have hXc : X = c :: (r ++ 61 :: (34 :: (M2.escape true a.value.data.toList ++ 34 :: rest))) := by rw [hX, hc]; rfl
  have hkc := hk c (by rw [hc]; simp)
  have e2 : attsR (32 :: X) acc = attsR X acc := by
    rw [atts_over (32 :: X), atts_over X]
    rfl
  rw [e1, e2, hXc, atts_one c _ acc (key_over hkc.1) hkc.2, ← hXc]
  obtain ⟨t1, t2⟩ := tw_all keyB a.name.data.toList 61 (34 :: (M2.escape true a.value.data.toList ++ 34 :: rest)) (fun d hd => (hk d hd).1) (by decide)
  have hq := quoted_own 34 (M2.escape true a.value.data.toList) rest (fun x hx => (M2.escape_bare _ x hx).2.2)
  have hat : attC X = (a, rest) := by
    rw [attC_61 X (34 :: (M2.escape true a.value.data.toList ++ 34 :: rest)) (by rw [hX, t2]; rfl)]
    have hv : valC ((34 :: (M2.escape true a.value.data.toList ++ 34 :: rest)).dropWhile blankB) = (M2.escape true a.value.data.toList, rest) := by
      show valC (34 :: (M2.escape true a.value.data.toList ++ 34 :: rest)) = _
      rw [valC, if_pos (Or.inl rfl), hq]
    rw [hv, hX, t1, fold_own _ hcap, M2.decode_escape, bs_of, bs_of]
  rw [hat]
theorem addT_new (acc : List Att) (a : Att) (h : ∀ b ∈ acc, b.name ≠ a.name) : addT acc a = acc ++ [a] := by
  unfold addT
  rw [if_neg]
  intro hany
  obtain ⟨b, hb, he⟩ := List.any_eq_true.1 hany
  exact h b hb (M3.eqB_iff.1 he)
theorem atts_written (rest : List UInt8) : ∀ (l acc : List Att), (∀ a ∈ l, M3.attributedB a.name.data.toList = true) → l.Pairwise (fun a b => a.name ≠ b.name) → (∀ b ∈ acc, ∀ a ∈ l, b.name ≠ a.name) → attsR (M4.attsB l ++ 62 :: rest) acc = some (acc ++ l, rest) := by
  intro l
  induction l with
  | nil =>
    intro acc _ _ _
    show attsR (62 :: rest) acc = _
    rw [attsR_cons, if_pos rfl, List.append_nil]
  | cons a l ih =>
    intro acc h1 h2 h3
    obtain ⟨p1, p2⟩ := List.pairwise_cons.1 h2
    have e : M4.attsB (a :: l) ++ 62 :: rest = M4.attB a ++ (M4.attsB l ++ 62 :: rest) := by unfold M4.attsB; rw [List.flatMap_cons, List.append_assoc]
    rw [e, attB_step a _ acc (h1 a (by simp)), addT_new acc a (fun b hb => h3 b hb a (by simp)), ih (acc ++ [a]) (fun b hb => h1 b (by simp [hb])) p2 (fun b hb c hc => by
      rcases List.mem_append.1 hb with hb | hb
      · exact h3 b hb c (by simp [hc])
      · rw [List.mem_singleton] at hb
        subst hb
        exact p1 c hc), List.append_assoc]
    rfl
def AttsOk (l : List Att) : Prop := (∀ a ∈ l, M3.attributedB a.name.data.toList = true) ∧ l.Pairwise (fun a b => a.name ≠ b.name)
theorem head_written (n : ByteArray) (l : List Att) (rest : List UInt8) (hn : M3.namedB n.data.toList = true) (hl : AttsOk l) : startsB (M4.headB n l ++ rest) = true ∧ tagR (M4.headB n l ++ rest) = (⟨1, n, l, ⟨#[]⟩⟩, rest) := by
  obtain ⟨⟨c, r, hc, hlc⟩, hcap, hnb⟩ := name_facts hn
  have e : M4.headB n l ++ rest = 60 :: (n.data.toList ++ (M4.attsB l ++ 62 :: rest)) := by unfold M4.headB; simp
  have hx : ∃ x b, M4.attsB l ++ 62 :: rest = x :: b ∧ nameB x = false := by
    cases l with
    | nil => exact ⟨62, rest, rfl, by decide⟩
    | cons a l => exact ⟨32, _, rfl, by decide⟩
  obtain ⟨x, b, hxb, hx⟩ := hx
  obtain ⟨t1, t2⟩ := tw_all nameB n.data.toList x b hnb hx
  rw [← hxb] at t1 t2
  have hs : startsB (60 :: (n.data.toList ++ (M4.attsB l ++ 62 :: rest))) = true := by
    rw [hc]
    show (60 == 60 && (letterB c || c == 33 || c == 63 || c == 47)) = true
    rw [hlc]
    rfl
  rw [e]
  refine ⟨hs, ?_⟩
  have hb : beginR (60 :: (n.data.toList ++ (M4.attsB l ++ 62 :: rest))) = (⟨1, n, l, ⟨#[]⟩⟩, rest) := by
    rw [begin_eq]
    show (match attsR ((n.data.toList ++ (M4.attsB l ++ 62 :: rest)).dropWhile nameB) [] with | some (as_, r) => ((⟨1, bs (M1.fold ((n.data.toList ++ (M4.attsB l ++ 62 :: rest)).takeWhile nameB)), as_, ⟨#[]⟩⟩ : Tok), r) | none => (zero, [])) = _
    rw [t1, t2, atts_written rest l [] hl.1 hl.2 (fun b hb => nomatch hb), fold_own _ hcap, bs_of]
    rfl
  rw [hc] at hb hs ⊢
  unfold tagR
  rw [if_pos hs]
  show (if letterB c then _ else _ : Tok × List UInt8) = _
  rw [if_pos hlc]
  exact hb
theorem end_written (n : ByteArray) (rest : List UInt8) (hn : M3.namedB n.data.toList = true) : startsB ([60, 47] ++ (n.data.toList ++ [62]) ++ rest) = true ∧ tagR ([60, 47] ++ (n.data.toList ++ [62]) ++ rest) = (⟨2, n, [], ⟨#[]⟩⟩, rest) := by
  obtain ⟨⟨c, r, hc, hlc⟩, hcap, hnb⟩ := name_facts hn
  have e : [60, 47] ++ (n.data.toList ++ [62]) ++ rest = 60 :: 47 :: (n.data.toList ++ 62 :: rest) := by simp
  rw [e]
  have hs : startsB (60 :: 47 :: (n.data.toList ++ 62 :: rest)) = true := rfl
  refine ⟨hs, ?_⟩
  obtain ⟨t1, _⟩ := tw_all nameB n.data.toList 62 rest hnb (by decide)
  obtain ⟨u1, _⟩ := tw_all (· != 62) n.data.toList 62 rest (fun d hd => by
    rw [bne_iff_ne]
    intro e
    have := hnb d hd
    rw [e] at this
    exact absurd this (by decide)) rfl
  have hf : findL [62] (n.data.toList ++ 62 :: rest) = n.data.toList.length := by rw [findL_span]; unfold spanN; rw [u1]
  unfold tagR
  rw [if_pos hs]
  show (if letterB 47 then _ else _ : Tok × List UInt8) = _
  rw [show letterB 47 = false from by decide, if_neg Bool.false_ne_true]
  have p4 : [60, 33, 45, 45].isPrefixOf (60 :: 47 :: (n.data.toList ++ 62 :: rest)) = false := rfl
  have p3 : [60, 47, 62].isPrefixOf (60 :: 47 :: (n.data.toList ++ 62 :: rest)) = false := by
    rw [hc]
    show (60 == 60 && (47 == 47 && (62 == c && _))) = false
    have : ((62 : UInt8) == c) = false := by
      rw [beq_eq_false_iff_ne]
      intro e
      subst e
      exact absurd hlc (by decide)
    rw [this]
    rfl
  rw [p4, p3, if_neg Bool.false_ne_true, if_neg Bool.false_ne_true, if_pos ⟨rfl, by rw [hc]; exact congrArg some hlc⟩, hf, if_pos (by rw [List.length_append]; simp), t1, fold_own _ hcap, bs_of]
  congr 1
  rw [List.drop_append, List.drop_of_length_le (by omega), List.nil_append, Nat.add_sub_cancel_left]
  rfl
end Go.Proofs.YteefodibpjgicaaGreat.M5

/- Tokens by definitions: written elements without kids, a list of them, told. -/
namespace Go.Proofs.YteefodibpjgicaaGreat.M5
theorem names_atts (l : List Att) : ∀ seen : List ByteArray, M3.namesE seen l = 0 → (∀ a ∈ l, M3.attributedB a.name.data.toList = true) ∧ l.Pairwise (fun a b => a.name ≠ b.name) ∧ ∀ a ∈ l, ∀ s ∈ seen, s ≠ a.name := by
  induction l with
  | nil => intro seen _; exact ⟨fun a h => (nomatch h), List.Pairwise.nil, fun a h => (nomatch h)⟩
  | cons a r ih =>
    intro seen h
    have h : (if M3.attributedB a.name.data.toList then (if seen.any (M3.eqB a.name) then 5 else M3.namesE (seen ++ [a.name]) r) else 4) = (0 : Int) := h
    split at h
    · rename_i ha
      split at h
      · exact absurd h (by decide)
      · rename_i hs
        obtain ⟨i1, i2, i3⟩ := ih _ h
        have hns : ∀ s ∈ seen, s ≠ a.name := fun s hm e => hs (List.any_eq_true.2 ⟨s, hm, M3.eqB_iff.2 e.symm⟩)
        refine ⟨fun b hb => ?_, List.pairwise_cons.2 ⟨fun b hb => i3 b hb a.name (by simp), i2⟩, fun b hb s hm => ?_⟩
        · rcases List.mem_cons.1 hb with rfl | hb
          · exact ha
          · exact i1 b hb
        · rcases List.mem_cons.1 hb with rfl | hb
          · exact hns s hm
          · exact i3 b hb s (by simp [hm])
    · exact absurd h (by decide)
end Go.Proofs.YteefodibpjgicaaGreat.M5

/- Layer 8: what stable nodes are written as is told as their tokens. No program in it. -/
namespace Go.Proofs.YteefodibpjgicaaGreat
namespace M5
/-! ### Where a word is found -/
theorem find_skip (w l : List UInt8) (k : Nat) (hk : k ≤ l.length) (h : ∀ i, i < k → w.isPrefixOf (l.drop i) = false) : findL w l = k + findL w (l.drop k) := by
  induction k generalizing l with
  | zero => simp
  | succ k ih =>
    cases l with
    | nil => simp at hk
    | cons c r =>
      have h0 := h 0 (by omega)
      rw [List.drop_zero] at h0
      rw [findL, h0, if_neg Bool.false_ne_true, ih r (by simp at hk; omega) (fun i hi => by have := h (i + 1) (by omega); simpa using this), List.drop_succ_cons]
      omega
theorem find_none {w l : List UInt8} (h : findL w l = l.length) : ∀ i, i < l.length → w.isPrefixOf (l.drop i) = false := by
  induction l with
  | nil => intro i hi; simp at hi
  | cons c r ih =>
    rw [findL] at h
    split at h
    · simp at h
    · rename_i h0
      intro i hi
      cases i with
      | zero => exact Bool.eq_false_iff.2 h0
      | succ i => exact ih (by simp at h; exact h) i (by simpa using hi)
theorem find_here (w z : List UInt8) (hw : w ≠ []) : findL w (w ++ z) = 0 := by
  cases w with
  | nil => exact absurd rfl hw
  | cons c r =>
    rw [List.cons_append, findL, if_pos]
    have : (c :: r).isPrefixOf ((c :: r) ++ z) = true := by simp
    exact this
/-- A comment's end. -/
theorem find_rem (t z : List UInt8) (h : findL [45, 45, 62] t = t.length) : findL [45, 45, 62] (t ++ ([45, 45, 62] ++ z)) = t.length := by
  rw [find_skip _ _ t.length (by simp) (fun i hi => ?_), List.drop_left, find_here _ _ (by simp)]
  · omega
  · have h1 := find_none h i hi
    rw [List.drop_append_of_le_length (by omega)]
    have hl : 0 < (t.drop i).length := by rw [List.length_drop]; omega
    generalize t.drop i = a at *
    match a with
    | [] => simp at hl
    | [c] =>
      simp only [List.cons_append, List.nil_append, List.isPrefixOf]
      simp
    | [c, d] =>
      simp only [List.cons_append, List.nil_append, List.isPrefixOf]
      simp
    | c :: d :: e :: r =>
      simp only [List.cons_append, List.isPrefixOf] at h1 ⊢
      exact h1
theorem upto_rem (t z : List UInt8) (h : findL [45, 45, 62] t = t.length) : uptoR [45, 45, 62] (t ++ ([45, 45, 62] ++ z)) = (t, z) := by
  unfold uptoR
  rw [find_rem t z h, if_pos (by simp)]
  congr 1
  · simp
  · rw [List.drop_append, List.drop_of_length_le (by omega), List.nil_append, Nat.add_sub_cancel_left]
    rfl
theorem comm_written (t : ByteArray) (z : List UInt8) (h : findL [45, 45, 62] t.data.toList = t.data.toList.length) : startsB (M4.commB t ++ z) = true ∧ tagR (M4.commB t ++ z) = (⟨4, ⟨#[]⟩, [], t⟩, z) := by
  have e : M4.commB t ++ z = 60 :: 33 :: 45 :: 45 :: (t.data.toList ++ ([45, 45, 62] ++ z)) := by
    unfold M4.commB
    simp
  have hs : startsB (60 :: 33 :: 45 :: 45 :: (t.data.toList ++ ([45, 45, 62] ++ z))) = true := rfl
  rw [e]
  refine ⟨hs, ?_⟩
  rw [tagR, if_pos hs]
  show (if letterB 33 then _ else if [60, 33, 45, 45].isPrefixOf (60 :: 33 :: 45 :: 45 :: (t.data.toList ++ ([45, 45, 62] ++ z))) then _ else _ : Tok × List UInt8) = _
  rw [if_neg (by decide), if_pos (by simp)]
  show ((⟨4, ⟨#[]⟩, [], bs (uptoR [45, 45, 62] (t.data.toList ++ ([45, 45, 62] ++ z))).1⟩ : Tok), (uptoR [45, 45, 62] (t.data.toList ++ ([45, 45, 62] ++ z))).2) = _
  rw [upto_rem _ _ h, bs_of]

/-! ### Where a raw element ends -/
def stopH : List UInt8 → Bool
  | d :: _ => blankB d || d == 47 || d == 62
  | [] => false
theorem ends_step (w : List UInt8) (c : UInt8) (r : List UInt8) : endsL w (c :: r) = if (M1.fold ((c :: r).take w.length) == w && stopH ((c :: r).drop w.length)) = true then some 0 else (endsL w r).map (· + 1) := by
  rw [endsL]
  cases (c :: r).drop w.length <;> rfl
theorem ends_len (w : List UInt8) : ∀ (l : List UInt8) (k : Nat), endsL w l = some k → k + w.length < l.length := by
  intro l
  induction l with
  | nil => intro k h; cases h
  | cons c r ih =>
    intro k h
    rw [ends_step] at h
    by_cases hh : (M1.fold ((c :: r).take w.length) == w && stopH ((c :: r).drop w.length)) = true
    · rw [if_pos hh] at h
      have h : 0 = k := by simpa using h
      subst h
      simp only [Bool.and_eq_true] at hh
      have h2 := hh.2
      cases hd : (c :: r).drop w.length with
      | nil => rw [hd] at h2; cases h2
      | cons d t =>
        have := congrArg List.length hd
        rw [List.length_drop] at this
        simp only [List.length_cons] at this ⊢
        omega
    · rw [if_neg hh] at h
      cases hr : endsL w r with
      | none => rw [hr] at h; cases h
      | some j =>
        rw [hr] at h
        have := ih j hr
        have : j + 1 = k := by simpa using h
        simp only [List.length_cons]
        omega
theorem ends_ext (w : List UInt8) : ∀ (l z : List UInt8) (k : Nat), endsL w l = some k → endsL w (l ++ z) = some k := by
  intro l
  induction l with
  | nil => intro z k h; cases h
  | cons c r ih =>
    intro z k h
    have hl := ends_len w _ _ h
    have ht : ((c :: r) ++ z).take w.length = (c :: r).take w.length := List.take_append_of_le_length (by omega)
    have hd : ((c :: r) ++ z).drop w.length = (c :: r).drop w.length ++ z := List.drop_append_of_le_length (by omega)
    rw [List.cons_append] at ht hd ⊢
    rw [ends_step] at h ⊢
    rw [ht, hd]
    have hm : stopH ((c :: r).drop w.length ++ z) = stopH ((c :: r).drop w.length) := by
      cases hq : (c :: r).drop w.length with
      | nil =>
        have := congrArg List.length hq
        rw [List.length_drop] at this
        simp only [List.length_nil] at this
        omega
      | cons d t => rfl
    rw [hm]
    by_cases hc : (M1.fold ((c :: r).take w.length) == w && stopH ((c :: r).drop w.length)) = true
    · rw [if_pos hc] at h ⊢; exact h
    · rw [if_neg hc] at h ⊢
      cases hr : endsL w r with
      | none => rw [hr] at h; cases h
      | some j =>
        rw [hr] at h
        rw [ih z j hr]
        exact h
theorem ends_here (w z : List UInt8) (hw : M1.fold w = w) (h0 : w ≠ []) : endsL w (w ++ 62 :: z) = some 0 := by
  cases w with
  | nil => exact absurd rfl h0
  | cons c r =>
    rw [List.cons_append, ends_step, if_pos]
    have e1 : (c :: (r ++ 62 :: z)).take (c :: r).length = c :: r := by
      rw [← List.cons_append, List.take_left]
    have e2 : (c :: (r ++ 62 :: z)).drop (c :: r).length = 62 :: z := by
      rw [← List.cons_append, List.drop_left]
    rw [e1, e2, hw]
    simp [stopH]

/-! ### Nodes -/
theorem keep_ne {t : Tok} (h : t.kind ≠ 0) : keepT t = [t] := if_pos h
/-- What is no text begins with a tag or a comment. -/
theorem one_starts {x : Nd} {p : Bool} (z : List UInt8) (h : M3.oneE x p = 0) (hs : M6.remB x = false) (ht : x.kind ≠ 2) : startsB (M4.oneB false x ++ z) = true := by
  rcases M7.one_kinds h with ⟨hk, -, hn, ha, -⟩ | ⟨hk, -⟩ | ⟨hk, -⟩
  · rw [M4.oneB_1 hk, List.append_assoc]
    obtain ⟨a1, a2, -⟩ := names_atts _ _ ha
    exact (head_written x.name x.attrs _ hn ⟨a1, a2⟩).1
  · exact absurd hk ht
  · rw [M4.oneB_3 hk]
    have : findL [45, 45, 62] x.text.data.toList = x.text.data.toList.length := by
      unfold M6.remB M6.hasB at hs
      rw [hk] at hs
      have := findL_le [45, 45, 62] x.text.data.toList
      have : ¬ findL [45, 45, 62] x.text.data.toList < x.text.data.toList.length := by simpa using hs
      omega
    exact (comm_written x.text z this).1
def Tagged (z : List UInt8) : Prop := z = [] ∨ startsB z = true
theorem rest_tagged (r : List Nd) (z : List UInt8) (hz : Tagged z) (hmay : M3.mayE true r = 0) (hall : M6.allB r = true) : Tagged (M4.textB false r ++ z) := by
  cases r with
  | nil => rw [M4.textB_nil]; exact hz
  | cons y r =>
    obtain ⟨m1, -, -⟩ := M7.may_cons hmay
    rw [M6.allB_cons, Bool.and_eq_true] at hall
    have hr : M6.remB y = false := by
      have := hall.1
      unfold M6.oneS at this
      simp only [Bool.and_eq_true, Bool.not_eq_true'] at this
      exact this.1
    rw [M4.textB_cons, List.append_assoc]
    refine .inr (one_starts _ m1 hr ?_)
    intro hk
    rcases M7.one_kinds m1 with h | h | h
    · omega
    · exact absurd h.2.2.2.2 (by simp)
    · omega
theorem text_written (t : List UInt8) (z : List UInt8) (hz : Tagged z) (ht : t ≠ []) : toksR [] (M2.escape false t ++ z) = ⟨3, ⟨#[]⟩, [], bs t⟩ :: toksR [] z := by
  have hne := escape_ne false t ht
  have hp := plainN_upto (M2.escape false t) z (escape_lt false t)
  have hpz : plainN z = 0 := by
    rcases hz with rfl | h
    · rfl
    · exact plainN_yes z h
  rw [hpz, Nat.add_zero] at hp
  have hs : startsB (M2.escape false t ++ z) = false := by
    cases hs : startsB (M2.escape false t ++ z)
    · rfl
    · obtain ⟨u, hu⟩ := starts_head _ hs
      cases he : M2.escape false t with
      | nil => exact absurd he hne
      | cons c r =>
        rw [he, List.cons_append] at hu
        injection hu with h1 h2
        exact absurd h1 (escape_lt false t c (by rw [he]; simp))
  rw [toks_step _ (by intro e; exact hne (List.append_eq_nil_iff.1 e).1) hs, hp, List.take_left, List.drop_left, M2.decode_escape]
/-- Stable nodes' text is told as their tokens. -/
theorem toks_nodes (l : List Nd) : ∀ (p : Bool) (z : List UInt8), Tagged z → M6.allB l = true → M3.mayE p l = 0 → toksR [] (M4.textB false l ++ z) = M7.toksN l ++ toksR [] z := by
  induction l using Nd.ind with
  | h0 => intro p z _ _ _; rw [M4.textB_nil, M7.toksN_nil]; rfl
  | h1 k n a t ks r ih1 ih2 =>
    intro p z hz hall hmay
    obtain ⟨m1, m2, m3⟩ := M7.may_cons hmay
    rw [M6.allB_cons, Bool.and_eq_true] at hall
    obtain ⟨a1, a2⟩ := hall
    unfold M6.oneS at a1
    simp only [Bool.and_eq_true, Bool.not_eq_true'] at a1
    obtain ⟨ar, a3, a4⟩ := a1
    rw [M4.textB_cons, M7.toksN_cons, List.append_assoc, List.append_assoc]
    have hrest : toksR [] (M4.textB false r ++ z) = M7.toksN r ++ toksR [] z := ih2 _ z hz a2 m3
    rcases M7.one_kinds m1 with ⟨hk, ht, hn, ha, -⟩ | ⟨hk, hx, -, hne, -⟩ | ⟨hk, hx, -⟩
    · have hk : k = 1 := hk
      have ht : t = ⟨#[]⟩ := ht
      subst hk ht
      obtain ⟨b1, b2, -⟩ := names_atts _ _ ha
      have hA : AttsOk a := ⟨b1, b2⟩
      have hn : M3.namedB n.data.toList = true := hn
      rw [M4.oneB_1 rfl]
      show toksR [] ((M4.headB n a ++ (M4.innerB (M3.voidB n.data.toList) (M3.rawB n.data.toList) ks ++ M4.endB n)) ++ (M4.textB false r ++ z)) = M7.tokOne (.mk 1 n a ⟨#[]⟩ ks) ++ (M7.toksN r ++ toksR [] z)
      rw [← hrest, List.append_assoc]
      generalize M4.textB false r ++ z = y
      obtain ⟨s1, g1⟩ := head_written n a ((M4.innerB (M3.voidB n.data.toList) (M3.rawB n.data.toList) ks ++ M4.endB n) ++ y) hn hA
      have hto : M7.tokOne (.mk 1 n a ⟨#[]⟩ ks) = ⟨1, n, a, ⟨#[]⟩⟩ :: (if M3.voidB n.data.toList then [] else M7.toksN ks ++ [⟨2, n, [], ⟨#[]⟩⟩]) := by
        unfold M7.tokOne; rw [if_pos (show (Nd.mk 1 n a ⟨#[]⟩ ks).kind = 1 from rfl)]; rfl
      rw [hto]
      have hkb : keepT (⟨1, n, a, ⟨#[]⟩⟩ : Tok) = [⟨1, n, a, ⟨#[]⟩⟩] := rfl
      cases hv : M3.voidB n.data.toList
      · have hend : M4.endB n = [60, 47] ++ (n.data.toList ++ [62]) := by unfold M4.endB; rw [hv]; rfl
        rw [hv, hend, List.append_assoc] at s1 g1
        rw [hend, if_neg Bool.false_ne_true, List.append_assoc (M4.innerB _ _ _)]
        obtain ⟨s2, g2⟩ := end_written n y hn
        have hendt : toksR [] ([60, 47] ++ (n.data.toList ++ [62]) ++ y) = ⟨2, n, [], ⟨#[]⟩⟩ :: toksR [] y := by
          rw [round_tag _ s2 (by rw [g2]; intro h; exact absurd h.1 (by show ¬ (2 : Int) = 1; decide)), g2]
          rfl
        cases hr : M3.rawB n.data.toList
        · rw [hr] at s1 g1
          rw [round_tag _ s1 (by rw [g1]; intro h; have := h.2; rw [show (⟨1, n, a, ⟨#[]⟩⟩ : Tok).name = n from rfl, hr] at this; cases this), g1]
          show keepT _ ++ toksR [] (M4.innerB false false ks ++ _) = _
          rw [hkb, M4.innerB_no, ih1 false _ (.inr s2) a4 m2, hendt]
          simp
        · rw [hr] at s1 g1
          rw [round_raw _ s1 (by rw [g1]; exact ⟨rfl, hr⟩), g1]
          show keepT _ ++ (keepT (contC (endN n.data.toList (M4.innerB false true ks ++ _)) (M4.innerB false true ks ++ _)) ++ toksR [] ((M4.innerB false true ks ++ _).drop (endN n.data.toList (M4.innerB false true ks ++ _)))) = _
          rw [hkb, M4.innerB_no]
          have hfit : ∀ x ∈ ks, x.kind = 2 ∧ M6.endsHere n.data.toList x.text.data.toList = true := fun x hx => by
            have h := List.all_eq_true.1 a3 x hx
            unfold M6.fitsB at h
            rw [show (Nd.mk 1 n a ⟨#[]⟩ ks).name = n from rfl, hv, hr, if_neg Bool.false_ne_true, if_pos rfl, Bool.and_eq_true] at h
            exact ⟨by simpa [M3.isText] using h.1, h.2⟩
          obtain ⟨nf1, nf2, nf3⟩ := name_facts hn
          have hfold : M1.fold ([60, 47] ++ n.data.toList) = [60, 47] ++ n.data.toList := by
            unfold M1.fold
            rw [List.map_append]
            have := fold_own _ nf2
            unfold M1.fold at this
            rw [this]
            rfl
          cases ks with
          | nil =>
            have he : endN n.data.toList (M4.textB true [] ++ ([60, 47] ++ (n.data.toList ++ [62]) ++ y)) = 0 := by
              rw [M4.textB_nil, List.nil_append]
              unfold endN
              have := ends_here ([60, 47] ++ n.data.toList) y hfold (by simp)
              rw [show [60, 47] ++ (n.data.toList ++ [62]) ++ y = [60, 47] ++ n.data.toList ++ 62 :: y by simp, this]
              rfl
            rw [he, M4.textB_nil, List.drop_zero, List.nil_append, hendt, M7.toksN_nil]
            rfl
          | cons x r' =>
            obtain ⟨x1, x2⟩ := hfit x (by simp)
            obtain ⟨c1, -, c3⟩ := M7.may_cons m2
            have hr' : r' = [] := by
              cases r' with
              | nil => rfl
              | cons y' r'' =>
                obtain ⟨y1, -⟩ := hfit y' (by simp)
                rw [x1] at c3
                obtain ⟨d1, -, -⟩ := M7.may_cons c3
                rcases M7.one_kinds d1 with h | h | h
                · omega
                · exact absurd h.2.2.2.2 (by simp)
                · omega
            subst hr'
            have hxn : x.text.data.toList ≠ [] := by
              rcases M7.one_kinds c1 with h | h | h
              · omega
              · intro e
                have := h.2.2.2.1
                rw [M3.nilB_data', e] at this
                cases this
              · omega
            have htx : M4.textB true [x] = x.text.data.toList := by
              rw [M4.textB_cons, M4.textB_nil, List.append_nil, M4.oneB_2 x1]
              rfl
            have he : endN n.data.toList (x.text.data.toList ++ ([60, 47] ++ (n.data.toList ++ [62]) ++ y)) = x.text.data.toList.length := by
              unfold M6.endsHere at x2
              have x2 : endsL ([60, 47] ++ n.data.toList) (x.text.data.toList ++ ([60, 47] ++ n.data.toList ++ [62])) = some x.text.data.toList.length := by simpa using x2
              have := ends_ext _ _ y _ x2
              unfold endN
              rw [show x.text.data.toList ++ ([60, 47] ++ (n.data.toList ++ [62]) ++ y) = x.text.data.toList ++ ([60, 47] ++ n.data.toList ++ [62]) ++ y by simp, this]
              rfl
            rw [htx, he, List.drop_left, hendt]
            have hlen : x.text.data.toList.length ≠ 0 := fun e => hxn (List.eq_nil_of_length_eq_zero e)
            have hto1 : M7.toksN [x] = [⟨3, ⟨#[]⟩, [], x.text⟩] := by
              rw [M7.toksN_cons, M7.toksN_nil, List.append_nil]
              unfold M7.tokOne
              rw [if_neg (by omega), if_pos x1]
            unfold contC
            rw [if_neg hlen, List.take_left, bs_of, hto1]
            rfl
      · have hend : M4.endB n = [] := by unfold M4.endB; rw [hv]; rfl
        have hraw : M3.rawB n.data.toList = false := by
          cases hr : M3.rawB n.data.toList
          · rfl
          · unfold M3.voidB at hv
            unfold M3.rawB at hr
            simp only [Bool.or_eq_true, beq_iff_eq] at hr hv
            rcases hr with hr | hr <;> rw [hr] at hv <;> simp at hv
        rw [hv, hend] at s1 g1
        rw [hend]
        rw [round_tag _ s1 (by rw [g1]; intro h; have := h.2; rw [show (⟨1, n, a, ⟨#[]⟩⟩ : Tok).name = n from rfl, hraw] at this; cases this), g1]
        show keepT _ ++ toksR [] (M4.innerB true _ ks ++ [] ++ y) = _
        rw [hkb, M4.innerB_yes]
        rfl
    · have hk : k = 2 := hk
      have hx : Nd.mk k n a t ks = .mk 2 ⟨#[]⟩ [] t [] := hx
      rw [M4.oneB_2 (show (Nd.mk k n a t ks).kind = 2 from hk)]
      have hne : M3.nilB t = false := hne
      have hnt : t.data.toList ≠ [] := fun e => by rw [M3.nilB_data', e] at hne; cases hne
      have htag : Tagged (M4.textB false r ++ z) := rest_tagged r z hz (by have := m3; rw [show (Nd.mk k n a t ks).kind = 2 from hk] at this; exact this) a2
      show toksR [] (M2.escape false t.data.toList ++ (M4.textB false r ++ z)) = _
      rw [text_written _ _ htag hnt, hrest, bs_of]
      unfold M7.tokOne
      rw [if_neg (show ¬ (Nd.mk k n a t ks).kind = 1 by show ¬ k = 1; omega), if_pos (show (Nd.mk k n a t ks).kind = 2 from hk)]
      rfl
    · have hk : k = 3 := hk
      rw [M4.oneB_3 (show (Nd.mk k n a t ks).kind = 3 from hk)]
      have hf : findL [45, 45, 62] t.data.toList = t.data.toList.length := by
        unfold M6.remB M6.hasB at ar
        rw [show (Nd.mk k n a t ks).kind = 3 from hk] at ar
        change (decide ((3 : Int) = 3) && decide (findL [45, 45, 62] t.data.toList < t.data.toList.length)) = false at ar
        have := findL_le [45, 45, 62] t.data.toList
        have : ¬ findL [45, 45, 62] t.data.toList < t.data.toList.length := by
          intro h
          rw [decide_eq_true h] at ar
          cases ar
        omega
      obtain ⟨s1, g1⟩ := comm_written t (M4.textB false r ++ z) hf
      show toksR [] (M4.commB t ++ (M4.textB false r ++ z)) = _
      rw [round_tag _ s1 (by rw [g1]; intro h; exact absurd h.1 (by show ¬ (4 : Int) = 1; decide)), g1]
      show [_] ++ toksR [] (M4.textB false r ++ z) = _
      rw [hrest]
      unfold M7.tokOne
      rw [if_neg (show ¬ (Nd.mk k n a t ks).kind = 1 by show ¬ k = 1; omega), if_neg (show ¬ (Nd.mk k n a t ks).kind = 2 by show ¬ k = 2; omega)]
      rfl
/-- Stable nodes, written and parsed, are they. -/
theorem tree_text {l : List Nd} (h : M6.stableB l = true) : M7.tree (tokens (M4.textB false l)) = l := by
  unfold M6.stableB at h
  rw [Bool.and_eq_true] at h
  have hm : M3.mayE false l = 0 := by simpa using h.1
  have := toks_nodes l false [] (.inl rfl) h.2 hm
  rw [List.append_nil, toksR_nil] at this
  rw [tokens_eq, this]
  show M7.tree (M7.toksN l ++ []) = l
  rw [List.append_nil]
  exact M7.tree_nodes h.2 hm
end M5
end Go.Proofs.YteefodibpjgicaaGreat

/- Layer 8: what the tokens of a right text are like, one behind the other. No program in it. -/
namespace Go.Proofs.YteefodibpjgicaaGreat
namespace M5
open M1 (isB)
theorem not_gt_lo {q c : UInt8} (hq : q.toNat < 128) (h : (c != q) = false) : c.toNat < 128 := by
  have : c = q := by simpa using h
  subst this; exact hq
theorem R.val1 {l : List UInt8} (h : R l) : R (valC l).1 := by
  unfold valC
  cases l with
  | nil => exact R.nil
  | cons q t =>
    show R (if q = 34 ∨ q = 39 then quoted q t else _).1
    split
    · rename_i hq
      have hq' : q.toNat < 128 := by rcases hq with rfl | rfl <;> decide
      exact (R.upto (q := (· != q)) (fun c hc => not_gt_lo hq' hc) (h.drop1 hq')).1
    · exact (R.upto (q := bareB) (fun c hc => bare_lo hc) h).1
theorem R.attv {l : List UInt8} (h : R l) : R (attC l).1.value.data.toList := by
  have h1 : R ((l.dropWhile keyB).dropWhile blankB) := R.drops (fun _ h => blank_lo h) (R.upto (q := keyB) (fun c hc => stop_lo hc) h).2
  by_cases hx : ∃ r, (l.dropWhile keyB).dropWhile blankB = 61 :: r
  · obtain ⟨r, hx⟩ := hx
    rw [attC_61 l r hx]
    rw [hx] at h1
    show R (bs _).data.toList
    rw [bs_data]
    exact M2.isB_decode _ (R.val1 (R.drops (fun _ h => blank_lo h) (h1.drop1 (by decide))))
  · rw [attC_ne l (fun r e => hx ⟨r, e⟩)]
    exact R.nil
theorem addT_mem {acc : List Att} {a b : Att} (h : b ∈ addT acc a) : b ∈ acc ∨ b = a := by
  unfold addT at h
  split at h
  · exact .inl h
  · rcases List.mem_append.1 h with h | h
    · exact .inl h
    · exact .inr (List.mem_singleton.1 h)
theorem over_gt {c : UInt8} (h : overB c = false) : c ≠ 62 → keyB c = true := by
  intro h62
  unfold overB at h
  unfold keyB stopB
  simp only [Bool.or_eq_false_iff] at h
  simp [h.1.1, h.1.2, h.2, h62]
theorem atts_right : ∀ (n : Nat) (l : List UInt8) (acc as_ : List Att) (r : List UInt8), l.length ≤ n → R l → (∀ a ∈ acc, R a.value.data.toList) → attsR l acc = some (as_, r) → ∀ a ∈ as_, R a.value.data.toList := by
  intro n
  induction n with
  | zero =>
    intro l acc as_ r hl _ _ h
    obtain rfl : l = [] := List.eq_nil_of_length_eq_zero (by omega)
    rw [attsR_nil] at h; cases h
  | succ n ih =>
    intro l acc as_ r hl hR hacc h
    rw [atts_over] at h
    have hle := (List.dropWhile_suffix (l := l) overB).length_le
    have hR2 : R (l.dropWhile overB) := R.drops (fun _ h => over_lo h) hR
    cases hd : l.dropWhile overB with
    | nil => rw [hd, attsR_nil] at h; cases h
    | cons c t =>
      have hov := over_head l c t hd
      rw [hd] at h hle hR2
      by_cases h62 : c = 62
      · rw [attsR_cons, if_pos h62] at h
        cases h
        exact hacc
      · rw [atts_one c t acc hov h62] at h
        have hlt := attC_lt c t hov h62
        simp only [List.length_cons] at hlt hle
        refine ih _ _ _ _ (by omega) (R.att hR2) (fun a ha => ?_) h
        rcases addT_mem ha with ha | rfl
        · exact hacc a ha
        · exact R.attv hR2
/-! ### Comments -/
theorem pre_take {w l : List UInt8} {k : Nat} (h : w.isPrefixOf (l.take k) = true) : w.isPrefixOf l = true := by
  rw [List.isPrefixOf_iff_prefix] at h ⊢
  exact h.trans (List.take_prefix _ _)
theorem find_lt_no {w l : List UInt8} : ∀ i, i < findL w l → w.isPrefixOf (l.drop i) = false := by
  induction l with
  | nil => intro i hi; simp [findL] at hi
  | cons c r ih =>
    intro i hi
    rw [findL] at hi
    split at hi
    · omega
    · rename_i h0
      cases i with
      | zero => exact Bool.eq_false_iff.2 h0
      | succ i => exact ih i (by omega)
theorem find_all {w l : List UInt8} (h : ∀ i, i < l.length → w.isPrefixOf (l.drop i) = false) : findL w l = l.length := by
  have := find_skip w l l.length (Nat.le_refl _) h
  rw [List.drop_length] at this
  simpa [findL] using this
theorem find_take (w l : List UInt8) (k : Nat) (hk : k ≤ findL w l) : findL w (l.take k) = (l.take k).length := by
  refine find_all (fun i hi => ?_)
  rw [List.length_take] at hi
  cases h : w.isPrefixOf ((l.take k).drop i)
  · rfl
  · rw [List.drop_take] at h
    have := pre_take h
    rw [find_lt_no i (by omega)] at this
    cases this
theorem no_rem {t : List UInt8} (h : findL [62] t = t.length) : findL [45, 45, 62] t = t.length := by
  refine find_all (fun i hi => ?_)
  cases hp : ([45, 45, 62] : List UInt8).isPrefixOf (t.drop i)
  · rfl
  · exfalso
    obtain ⟨b, hb⟩ := List.isPrefixOf_iff_prefix.1 hp
    have hl := congrArg List.length hb
    rw [List.length_drop] at hl
    simp only [List.length_append, List.length_cons, List.length_nil] at hl
    have := find_none h (i + 2) (by omega)
    rw [← List.drop_drop, ← hb] at this
    simp at this
theorem upto_right {w1 : List UInt8} {c : UInt8} (hc : c.toNat < 128) {l : List UInt8} (h : R l) : R (uptoR (c :: w1) l).1 ∧ findL (c :: w1) (uptoR (c :: w1) l).1 = (uptoR (c :: w1) l).1.length := by
  unfold M5.uptoR
  split
  · rename_i hf
    refine ⟨?_, find_take _ _ _ (Nat.le_refl _)⟩
    obtain ⟨b, hb⟩ := find_at _ l hf
    have e := List.take_append_drop (findL (c :: w1) l) l
    rw [hb] at e
    rw [← e] at h
    rw [List.cons_append] at h
    show R (l.take _)
    have h2 := R.head h hc
    exact h2
  · rename_i hf
    have := findL_le (c :: w1) l
    exact ⟨h, by show findL _ l = l.length; omega⟩
/-- A token of a right text. -/
def TokOk (t : Tok) : Prop :=
  (t.kind = 1 ∧ M3.namedB t.name.data.toList = true ∧ AttsOk t.attrs ∧ ∀ a ∈ t.attrs, R a.value.data.toList) ∨ t.kind = 2 ∨
  (t.kind = 3 ∧ R t.text.data.toList ∧ t.text.data.toList ≠ []) ∨ (t.kind = 4 ∧ R t.text.data.toList ∧ findL [45, 45, 62] t.text.data.toList = t.text.data.toList.length)
theorem tag_ok (l : List UInt8) (hs : startsB l = true) (h : R l) (hk : (tagR l).1.kind ≠ 0) : TokOk (tagR l).1 := by
  match l, hs, h, hk with
  | [], hs, _, _ => cases hs
  | [c], hs, _, _ => cases hs
  | c :: d :: r, hs, h, hk =>
    obtain ⟨rfl, hd⟩ := starts_facts hs
    have h1 : R (d :: r) := h.drop1 (by decide)
    have hdl : d.toNat < 128 := by
      rcases hd with hd | rfl | rfl | rfl
      · exact name_lo (by unfold nameB; rw [hd]; rfl)
      · decide
      · decide
      · decide
    have h2 : R r := h1.drop1 hdl
    unfold tagR at hk ⊢
    rw [if_pos hs] at hk ⊢
    change (if letterB d then _ else _ : Tok × List UInt8).1.kind ≠ 0 at hk
    show TokOk (if letterB d then _ else _ : Tok × List UInt8).1
    by_cases hl : letterB d = true
    · rw [if_pos hl, begin_eq] at hk ⊢
      have e : (60 :: d :: r).drop 1 = d :: r := rfl
      rw [e] at hk ⊢
      have h3 : R ((d :: r).dropWhile nameB) := R.drops (fun _ h => name_lo h) h1
      cases ha : attsR ((d :: r).dropWhile nameB) [] with
      | none => rw [ha] at hk; exact absurd rfl hk
      | some p =>
        obtain ⟨as_, q⟩ := p
        obtain ⟨g1, g2⟩ := atts_shape ((d :: r).dropWhile nameB).length _ _ [] as_ q (Nat.le_refl _) (Nat.le_refl _) h3 ⟨fun a h => (nomatch h), List.Pairwise.nil⟩ ha
        have g3 := atts_right _ _ [] as_ q (Nat.le_refl _) h3 (fun a h => (nomatch h)) ha
        refine .inl ⟨rfl, ?_, ⟨fun a ha => (g1.1 a ha).1, g1.2⟩, g3⟩
        show M3.namedB (bs _).data.toList = true
        rw [bs_data]; exact named_tw d r hl
    · rw [if_neg hl] at hk ⊢
      split
      · rename_i hp
        obtain ⟨b, hb⟩ := List.isPrefixOf_iff_prefix.1 hp
        have h4 : R ((60 :: d :: r).drop 4) := by
          rw [← hb] at h ⊢
          exact R.tail (a := [60, 33, 45]) h (by decide)
        have h5 := upto_right (w1 := [45, 62]) (c := 45) (by decide) h4
        refine .inr (.inr (.inr ⟨rfl, ?_, ?_⟩))
        · show R (bs _).data.toList; rw [bs_data]; exact h5.1
        · show findL _ (bs _).data.toList = (bs _).data.toList.length; rw [bs_data]; exact h5.2
      · rename_i hp0
        rw [if_neg hp0] at hk
        split
        · rename_i hp
          rw [if_pos hp] at hk
          exact absurd rfl hk
        · rename_i hp1
          rw [if_neg hp1] at hk
          split
          · rename_i hx
            rw [if_pos hx] at hk
            split
            · exact .inr (.inl rfl)
            · rename_i hf
              rw [if_neg hf] at hk
              exact absurd rfl hk
          · have h5 := upto_right (w1 := []) (c := 62) (by decide) h2
            refine .inr (.inr (.inr ⟨rfl, ?_, ?_⟩))
            · show R (bs _).data.toList; rw [bs_data]; exact h5.1
            · show findL _ (bs _).data.toList = (bs _).data.toList.length; rw [bs_data]; exact no_rem h5.2
/-! ### Behind a raw element's beginning -/
def hitB (w l : List UInt8) : Bool := M1.fold (l.take w.length) == w && stopH (l.drop w.length)
theorem ends_cons (w : List UInt8) (c : UInt8) (r : List UInt8) : endsL w (c :: r) = if hitB w (c :: r) = true then some 0 else (endsL w r).map (· + 1) := ends_step w c r
theorem ends_some (w : List UInt8) : ∀ (l : List UInt8) (k : Nat), endsL w l = some k → k < l.length ∧ hitB w (l.drop k) = true ∧ ∀ i, i < k → hitB w (l.drop i) = false := by
  intro l
  induction l with
  | nil => intro k h; cases h
  | cons c r ih =>
    intro k h
    rw [ends_cons] at h
    by_cases hh : hitB w (c :: r) = true
    · rw [if_pos hh] at h
      have h : 0 = k := by simpa using h
      subst h
      exact ⟨by simp, hh, fun i hi => by omega⟩
    · rw [if_neg hh] at h
      cases hr : endsL w r with
      | none => rw [hr] at h; cases h
      | some j =>
        rw [hr] at h
        have h : j + 1 = k := by simpa using h
        subst h
        obtain ⟨a, b, c'⟩ := ih j hr
        refine ⟨by simp; exact a, b, fun i hi => ?_⟩
        cases i with
        | zero => exact Bool.eq_false_iff.2 hh
        | succ i => exact c' i (by omega)
theorem ends_none (w : List UInt8) : ∀ (l : List UInt8), endsL w l = none → ∀ i, i < l.length → hitB w (l.drop i) = false := by
  intro l
  induction l with
  | nil => intro _ i hi; simp at hi
  | cons c r ih =>
    intro h i hi
    rw [ends_cons] at h
    by_cases hh : hitB w (c :: r) = true
    · rw [if_pos hh] at h; cases h
    · rw [if_neg hh] at h
      cases i with
      | zero => exact Bool.eq_false_iff.2 hh
      | succ i => exact ih (by simpa using h) i (by simpa using hi)
theorem ends_first (w : List UInt8) : ∀ (l : List UInt8) (k : Nat), k < l.length → hitB w (l.drop k) = true → (∀ i, i < k → hitB w (l.drop i) = false) → endsL w l = some k := by
  intro l
  induction l with
  | nil => intro k hk; simp at hk
  | cons c r ih =>
    intro k hk h1 h2
    rw [ends_cons]
    cases k with
    | zero => rw [List.drop_zero] at h1; rw [if_pos h1]
    | succ k =>
      have := h2 0 (by omega)
      rw [List.drop_zero] at this
      rw [this, if_neg Bool.false_ne_true, ih k (by simpa using hk) h1 (fun i hi => h2 (i + 1) (by omega))]
      rfl
theorem hit_pre (w u a b : List UInt8) (h : w.length < u.length) : hitB w (u ++ a) = hitB w (u ++ b) := by
  unfold hitB
  rw [List.take_append_of_le_length (by omega), List.take_append_of_le_length (by omega), List.drop_append_of_le_length (by omega), List.drop_append_of_le_length (by omega)]
  cases hq : u.drop w.length with
  | nil =>
    have := congrArg List.length hq
    rw [List.length_drop] at this
    simp only [List.length_nil] at this
    omega
  | cons d t => rfl
/-- A raw element's text does not end within itself. -/
theorem ends_own {nm t : List UInt8} (hf : M1.fold ([60, 47] ++ nm) = [60, 47] ++ nm) (hnm : ∀ c ∈ nm, c ≠ 60) (z : List UInt8) (h : ∀ i, i < t.length → hitB ([60, 47] ++ nm) ((t ++ z).drop i) = false) : M6.endsHere nm t = true := by
  unfold M6.endsHere
  rw [beq_iff_eq]
  refine ends_first _ _ _ (by simp) ?_ (fun i hi => ?_)
  · rw [List.drop_left]
    unfold hitB
    rw [List.take_left, List.drop_left, hf]
    simp [stopH]
  · rw [List.drop_append_of_le_length (by omega)]
    have h1 := h i hi
    rw [List.drop_append_of_le_length (by omega)] at h1
    have hl : 0 < (t.drop i).length := by rw [List.length_drop]; omega
    generalize t.drop i = u at *
    generalize hw : [60, 47] ++ nm = w at *
    rcases Nat.lt_trichotomy w.length u.length with h2 | h2 | h2
    · rw [hit_pre w u _ z h2]; exact h1
    · unfold hitB
      rw [h2, List.drop_left, ← hw]
      have : stopH ([60, 47] ++ nm ++ [62]) = false := rfl
      rw [this, Bool.and_false]
    · unfold hitB
      have : (M1.fold ((u ++ (w ++ [62])).take w.length) == w) = false := by
        rw [beq_eq_false_iff_ne]
        intro e
        have e2 := congrArg (fun l => l[u.length]?) e
        have hq : ((u ++ (w ++ [62])).take w.length)[u.length]? = some 60 := by
          rw [List.getElem?_take, if_pos h2, List.getElem?_append_right (Nat.le_refl _), Nat.sub_self, ← hw]
          rfl
        simp only [M1.fold, List.getElem?_map, hq] at e2
        have e3 : w[u.length]? = some 60 := e2.symm
        rw [← hw] at e3
        cases hu : u.length with
        | zero => omega
        | succ m =>
          cases m with
          | zero => rw [hu] at e3; simp at e3
          | succ m =>
            rw [hu] at e3
            have : nm[m]? = some 60 := by simpa using e3
            exact hnm 60 (List.mem_of_getElem? this) rfl
      rw [this, Bool.false_and]
theorem small_name {c : UInt8} (h : nameB (M1.small c) = true) : nameB c = true := by
  rcases small_cases c with ⟨h1, h2, -⟩ | ⟨-, h2⟩
  · unfold nameB letterB; simp [h1, h2]
  · rwa [h2] at h
theorem small_letter {c : UInt8} (h : letterB (M1.small c) = true) : letterB c = true := by
  rcases small_cases c with ⟨h1, h2, -⟩ | ⟨-, h2⟩
  · unfold letterB; simp [h1, h2]
  · rwa [h2] at h
theorem small_47 {c : UInt8} (h : M1.small c = 47) : c = 47 := by
  rcases small_cases c with ⟨h1, h2, h3⟩ | ⟨-, h2⟩
  · rw [h] at h3
    have : (47 : UInt8).toNat = 47 := rfl
    omega
  · rw [← h2]; exact h
theorem stop_name {d : UInt8} (h : (blankB d || d == 47 || d == 62) = true) : nameB d = false := by
  cases hn : nameB d
  · rfl
  · exfalso
    unfold blankB at h
    simp only [Bool.or_eq_true, beq_iff_eq] at h
    rcases h with (((((rfl | rfl) | rfl) | rfl) | rfl)) | rfl <;> exact absurd hn (by decide)
/-- A raw element's ending tag. -/
theorem raw_next {nm : List UInt8} {x : List UInt8} (hn : M3.namedB nm = true) (h : hitB ([60, 47] ++ nm) x = true) : toksR [] x = [] ∨ ∃ r, toksR [] x = ⟨2, bs nm, [], ⟨#[]⟩⟩ :: r := by
  obtain ⟨⟨c0, r0, hc0, hl0⟩, nf2, nf3⟩ := name_facts hn
  unfold hitB at h
  rw [Bool.and_eq_true, beq_iff_eq] at h
  obtain ⟨h1, h2⟩ := h
  have hx := List.take_append_drop ([60, 47] ++ nm).length x
  generalize x.take ([60, 47] ++ nm).length = p at *
  cases hq : x.drop ([60, 47] ++ nm).length with
  | nil => rw [hq] at h2; cases h2
  | cons d y =>
    rw [hq] at h2 hx
    have hd : nameB d = false := stop_name h2
    match p, h1 with
    | [], h1 => simp [M1.fold] at h1
    | [a], h1 => simp [M1.fold] at h1
    | a :: b :: u, h1 =>
      have h1 : M1.small a :: M1.small b :: u.map M1.small = 60 :: 47 :: nm := h1
      injection h1 with e1 h1
      injection h1 with e2 e3
      have e1 := small_lt60 e1
      have e2 := small_47 e2
      subst e1 e2
      have hu : ∀ c ∈ u, nameB c = true := fun c hc => small_name (nf3 _ (by rw [← e3]; exact List.mem_map_of_mem hc))
      subst hx
      cases u with
      | nil => rw [hc0] at e3; cases e3
      | cons u0 u' =>
        have hlu : letterB u0 = true := small_letter (by rw [hc0] at e3; injection e3 with e4 e5; rw [e4]; exact hl0)
        have hs : startsB ((60 :: 47 :: u0 :: u') ++ d :: y) = true := rfl
        have h62 : u0 ≠ 62 := by rintro rfl; exact absurd hlu (by decide)
        obtain ⟨t1, t2⟩ := tw_all nameB (u0 :: u') d y hu hd
        have ht : tagR ((60 :: 47 :: u0 :: u') ++ d :: y) = if findL [62] ((u0 :: u') ++ d :: y) < ((u0 :: u') ++ d :: y).length then (⟨2, bs nm, [], ⟨#[]⟩⟩, ((u0 :: u') ++ d :: y).drop (findL [62] ((u0 :: u') ++ d :: y) + 1)) else (zero, []) := by
          unfold tagR
          rw [if_pos hs]
          show (if letterB 47 then _ else _ : Tok × List UInt8) = _
          rw [show letterB 47 = false from by decide, if_neg Bool.false_ne_true]
          have p4 : [60, 33, 45, 45].isPrefixOf ((60 :: 47 :: u0 :: u') ++ d :: y) = false := rfl
          have p3 : [60, 47, 62].isPrefixOf ((60 :: 47 :: u0 :: u') ++ d :: y) = false := by
            show (60 == 60 && (47 == 47 && (62 == u0 && _))) = false
            rw [beq_eq_false_iff_ne.2 (fun e : (62 : UInt8) = u0 => h62 e.symm)]
            rfl
          rw [p4, p3, if_neg Bool.false_ne_true, if_neg Bool.false_ne_true, if_pos ⟨rfl, congrArg some hlu⟩]
          have e6 : bs (M1.fold ((u0 :: u' ++ d :: y).takeWhile nameB)) = bs nm := by rw [t1]; unfold M1.fold; rw [e3]
          show (if findL [62] (u0 :: u' ++ d :: y) < (u0 :: u' ++ d :: y).length then ((⟨2, bs (M1.fold ((u0 :: u' ++ d :: y).takeWhile nameB)), [], ⟨#[]⟩⟩ : Tok), _) else _) = _
          rw [e6]
          rfl
        by_cases hf : findL [62] ((u0 :: u') ++ d :: y) < ((u0 :: u') ++ d :: y).length
        · rw [if_pos hf] at ht
          right
          rw [round_tag _ hs (by rw [ht]; intro h; exact absurd h.1 (by show ¬ (2 : Int) = 1; decide)), ht]
          exact ⟨_, rfl⟩
        · rw [if_neg hf] at ht
          left
          rw [round_tag _ hs (by rw [ht]; intro h; exact absurd h.1 (by show ¬ (0 : Int) = 1; decide)), ht]
          rfl
/-- What may stand behind a raw element's beginning. -/
def RawTail (nm : ByteArray) (r : List Tok) : Prop :=
  (r = [] ∨ ∃ r', r = ⟨2, nm, [], ⟨#[]⟩⟩ :: r') ∨ ∃ c r', r = ⟨3, ⟨#[]⟩, [], c⟩ :: r' ∧ M6.endsHere nm.data.toList c.data.toList = true ∧ (r' = [] ∨ ∃ r'', r' = ⟨2, nm, [], ⟨#[]⟩⟩ :: r'')
def OkL : List Tok → Prop
  | [] => True
  | t :: r => TokOk t ∧ (t.kind = 1 → M3.rawB t.name.data.toList = true → RawTail t.name r) ∧ OkL r
theorem toks_ok : ∀ (n : Nat) (l : List UInt8), l.length ≤ n → R l → OkL (toksR [] l) := by
  intro n
  induction n with
  | zero =>
    intro l hn _
    obtain rfl : l = [] := List.eq_nil_of_length_eq_zero (by omega)
    rw [toksR_nil]; trivial
  | succ n ih =>
    intro l hn hR
    by_cases hl : l = []
    · subst hl; rw [toksR_nil]; trivial
    by_cases hs : startsB l = true
    · obtain ⟨g1, g2⟩ := tag_shape l.length l (Nat.le_refl _) hs hR
      have g3 := tag_ok l hs hR
      have hlt := tag_lt l hs
      by_cases hr : (tagR l).1.kind = 1 ∧ M3.rawB (tagR l).1.name.data.toList = true
      · rw [round_raw l hs hr]
        have hk : (tagR l).1.kind ≠ 0 := by rw [hr.1]; decide
        have g3 := g3 hk
        rw [keep_ne hk]
        generalize (tagR l).1 = T at *
        generalize (tagR l).2 = x at *
        have hnm : M3.namedB T.name.data.toList = true := by
          rcases g3 with h | h | h | h
          · exact h.2.1
          · rw [hr.1] at h; exact absurd h (by decide)
          · rw [hr.1] at h; exact absurd h.1 (by decide)
          · rw [hr.1] at h; exact absurd h.1 (by decide)
        have hle := endN_le T.name.data.toList x
        have hnext : toksR [] (x.drop (endN T.name.data.toList x)) = [] ∨ ∃ r, toksR [] (x.drop (endN T.name.data.toList x)) = ⟨2, T.name, [], ⟨#[]⟩⟩ :: r := by
          unfold endN
          cases he : endsL ([60, 47] ++ T.name.data.toList) x with
          | none => left; show toksR [] (x.drop x.length) = []; rw [List.drop_length, toksR_nil]; rfl
          | some k =>
            have := raw_next hnm (ends_some _ _ _ he).2.1
            rw [bs_of] at this
            exact this
        have hok : OkL (toksR [] (x.drop (endN T.name.data.toList x))) := ih _ (by rw [List.length_drop]; omega) g1.ends
        have hno : ∀ i, i < endN T.name.data.toList x → hitB ([60, 47] ++ T.name.data.toList) (x.drop i) = false := by
          intro i hi
          unfold endN at hi
          cases he : endsL ([60, 47] ++ T.name.data.toList) x with
          | none => rw [he] at hi; exact ends_none _ _ he i hi
          | some k => rw [he] at hi; exact (ends_some _ _ _ he).2.2 i hi
        have hRt : R (x.take (endN T.name.data.toList x)) := by
          unfold endN
          cases he : endsL ([60, 47] ++ T.name.data.toList) x with
          | none => show R (x.take x.length); rw [List.take_length]; exact g1
          | some k =>
            show R (x.take k)
            obtain ⟨q, hq⟩ := ends_at T.name.data.toList x k he
            have e := List.take_append_drop k x
            rw [hq] at e
            rw [← e] at g1
            exact g1.head (by decide)
        generalize endN T.name.data.toList x = k at *
        unfold contC
        by_cases hz : k = 0
        · rw [if_pos hz]
          refine ⟨g3, fun _ _ => .inl ?_, ?_⟩
          · exact hnext
          · exact hok
        · rw [if_neg hz]
          have hxl : (x.take k).length = k := by rw [List.length_take]; omega
          refine ⟨g3, fun _ _ => .inr ⟨bs (x.take k), toksR [] (x.drop k), rfl, ?_, hnext⟩, ?_, ?_, hok⟩
          · rw [bs_data]
            obtain ⟨⟨c0, r0, hc0, hl0⟩, nf2, nf3⟩ := name_facts hnm
            have hfold : M1.fold ([60, 47] ++ T.name.data.toList) = [60, 47] ++ T.name.data.toList := by
              have := fold_own _ nf2
              unfold M1.fold at this ⊢
              rw [List.map_append, this]
              rfl
            refine ends_own hfold (fun c hc e => by have := nf3 c hc; subst e; exact absurd this (by decide)) (x.drop k) (fun i hi => ?_)
            rw [List.take_append_drop]
            exact hno i (by omega)
          · refine .inr (.inr (.inl ⟨rfl, ?_, ?_⟩))
            · show R (bs _).data.toList; rw [bs_data]; exact hRt
            · show (bs _).data.toList ≠ []
              rw [bs_data]
              intro e
              rw [e] at hxl
              exact hz hxl.symm
          · intro h; exact absurd h (by show ¬ (3 : Int) = 1; decide)
      · rw [round_tag l hs hr]
        have hok := ih (tagR l).2 (by omega) g1
        by_cases hk : (tagR l).1.kind ≠ 0
        · rw [keep_ne hk]
          exact ⟨g3 hk, fun h1 h2 => absurd ⟨h1, h2⟩ hr, hok⟩
        · rw [keepT, if_neg hk]
          exact hok
    · have hs : startsB l = false := by simpa using hs
      have hp := plain_pos l hl hs
      have hple := plainN_le l
      rw [toks_step l hl hs]
      refine ⟨.inr (.inr (.inl ⟨rfl, ?_, ?_⟩)), fun h => absurd h (by show ¬ (3 : Int) = 1; decide), ih _ (by rw [List.length_drop]; omega) hR.plain⟩
      · show R (bs _).data.toList
        rw [bs_data]
        refine M2.isB_decode _ ?_
        cases hd : l.drop (plainN l) with
        | nil =>
          have := congrArg List.length hd
          rw [List.length_drop, List.length_nil] at this
          rw [List.take_of_length_le (by omega)]
          exact hR
        | cons c r =>
          obtain ⟨q, hq⟩ := starts_head _ (plain_starts l (by rw [hd]; exact List.cons_ne_nil _ _))
          have e := List.take_append_drop (plainN l) l
          rw [hq] at e
          rw [← e] at hR
          exact R.head hR (by decide)
      · show (bs _).data.toList ≠ []
        rw [bs_data]
        refine decode_ne _ (fun e => ?_)
        have := congrArg List.length e
        rw [List.length_take, List.length_nil] at this
        omega
end M5
end Go.Proofs.YteefodibpjgicaaGreat
