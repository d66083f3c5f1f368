/- Texts joined: Law04g, Math4b. -/
import Derived.Test.YtjelmpajphajfaaH1
import Derived.Test.YtjelmpajphajfaaH2
import Derived.Test.YtjelmpajphajfaaH3
import Derived.Test.YtjelmpajphajfaaH4
import Derived.Test.YtjelmpajphajfaaH5
import Derived.Test.YtjelmpajphajfaaH6
/- The statements of layer 4: an attribute more, and a kid more. -/
namespace Go.Proofs.Ytjelmpajphajfaa
open Go.RowKit

def nameB : ByteArray := ⟨#[98]⟩
def idB : ByteArray := ⟨#[105, 100]⟩
def bareB1 : Nd := .mk 1 ⟨#[98]⟩ [] ⟨#[]⟩ []
def moreB1 (v t : ByteArray) : Nd := .mk 1 ⟨#[98]⟩ [⟨⟨#[105, 100]⟩, v⟩] ⟨#[]⟩ [.mk 2 ⟨#[]⟩ [] t []]
theorem bareB1_len : (M4.textB false [bareB1]).length = 7 := by
  rw [M4.textB_cons, M4.textB_nil, M4.oneB_1 rfl]
  have : M4.innerB (M3.voidB bareB1.name.data.toList) (M3.rawB bareB1.name.data.toList) bareB1.kids = M4.textB false [] := rfl
  rw [this, M4.textB_nil]
  rfl
theorem moreB1_len (v t : ByteArray) : (M4.textB false [moreB1 v t]).length = 7 + 6 + (M2.escape true v.data.toList).length + (M2.escape false t.data.toList).length := by
  rw [M4.textB_cons, M4.textB_nil, M4.oneB_1 rfl]
  have : M4.innerB (M3.voidB (moreB1 v t).name.data.toList) (M3.rawB (moreB1 v t).name.data.toList) (moreB1 v t).kids = M4.textB false [.mk 2 ⟨#[]⟩ [] t []] := rfl
  rw [this, M4.textB_cons, M4.textB_nil, M4.oneB_2 rfl]
  have e1 : M4.headB (moreB1 v t).name (moreB1 v t).attrs = [60, 98] ++ (([32, 105, 100, 61, 34] ++ (M2.escape true v.data.toList ++ [34])) ++ [62]) := by
    show M4.headB ⟨#[98]⟩ [⟨⟨#[105, 100]⟩, v⟩] = _
    simp [M4.headB, M4.attsB, M4.attB]
  have e2 : M4.endB (moreB1 v t).name = [60, 47, 98, 62] := rfl
  have e3 : M4.charsB false (Nd.mk 2 ⟨#[]⟩ [] t []).text = M2.escape false t.data.toList := rfl
  rw [e1, e2, e3]
  simp
  omega
theorem bareB1_fit : FitN [bareB1] :=
  fitN_cons.2 ⟨⟨by decide, by decide, (fun a ha => nomatch (show a ∈ ([] : List Att) from ha)), by show 1 + 0 + M3.weight [] ≤ _; rw [M3.weight_nil]; omega⟩, fitN_nil, fitN_nil⟩
theorem moreB1_fit (v t : ByteArray) (hv : v.size ≤ 268435456) (ht : t.size ≤ 268435456) : FitN [moreB1 v t] := by
  refine fitN_cons.2 ⟨⟨by show (⟨#[98]⟩ : ByteArray).size ≤ _; decide, by show (⟨#[]⟩ : ByteArray).size ≤ _; decide, ?_, ?_⟩, fitN_cons.2 ⟨⟨by show (⟨#[]⟩ : ByteArray).size ≤ _; decide, ht, (fun a ha => nomatch (show a ∈ ([] : List Att) from ha)), by show 1 + 0 + M3.weight [] ≤ _; rw [M3.weight_nil]; omega⟩, fitN_nil, fitN_nil⟩, fitN_nil⟩
  · intro a ha
    have : a = ⟨⟨#[105, 100]⟩, v⟩ := by simpa [moreB1, Nd.attrs] using ha
    subst this
    exact ⟨by show (⟨#[105, 100]⟩ : ByteArray).size ≤ _; decide, hv⟩
  · show 1 + 1 + M3.weight [.mk 2 ⟨#[]⟩ [] t []] ≤ _
    rw [M3.weight_cons, M3.weight_nil]
    show 1 + 1 + (1 + 0 + M3.weight [] + 0) ≤ _
    rw [M3.weight_nil]; omega

set_option maxHeartbeats 8000000 in
set_option maxRecDepth 100000 in
theorem law04WriteGrows (va vb : Value) (l m : List UInt8) (w : World) (ha : Sl w va (u8s l)) (hb : Sl w vb (u8s m)) :
    Calls Try.prog 12 #[va, vb] w fun e w' => e = .returned (.bool true) ∧ Below w.heap.size w w' := by
  obtain ⟨a1, c1, rfl, hc1, hm1, _⟩ := id ha
  obtain ⟨a2, c2, rfl, hc2, hm2, _⟩ := id hb
  simp only [u8s_length] at *
  have ha40 := Lib.hid (fun h : 40 < l.length => ha.take 40 (by omega))
  have hb40 := Lib.hid (fun h : 40 < m.length => hb.take 40 (by omega))
  replace ha := Lib.hid ha
  replace hb := Lib.hid hb
  have hu : ∀ (xs : List UInt8) (k : Nat), (u8s xs).take k = u8s (xs.take k) := fun xs k => by simp [u8s, Lib.byteCells, List.map_take]
  replace hu := Lib.hid hu
  go_enter Try.func12, Try.ntmps12
  go_upto_if 11 with (fail)
  go_cut [0] (fun s0 wx => ∃ (a : Option Addr) (n c : Nat), s0 = .slice a n c ∧ Sl w s0 (u8s (l.take 40)) ∧ w = wx)
  case first =>
    by_cases h40 : 40 < l.length
    · have h1 := Lib.hid (ha40.out h40)
      go_wp2_with fail
      go_meet
      case rel => exact ⟨_, _, _, rfl, by rw [← hu.out]; exact h1.out, rfl⟩
    · have ht : l.take 40 = l := List.take_of_length_le (by omega)
      replace ht := Lib.hid ht
      go_wp2_with fail
      go_meet
      case rel => exact ⟨_, _, _, rfl, by rw [ht.out]; exact ha.out, rfl⟩
  case rest =>
    obtain ⟨a3, n3, c3, rfl, hs3, rfl⟩ := hcut
    clear ha40
    replace hs3 := Lib.hid hs3
    go_upto_if 16 with (fail)
    go_cut [1] (fun s1 wx => ∃ (a : Option Addr) (n c : Nat), s1 = .slice a n c ∧ Sl w s1 (u8s (m.take 40)) ∧ w = wx)
    case first =>
      by_cases h40 : 40 < m.length
      · have h1 := Lib.hid (hb40.out h40)
        go_wp2_with fail
        go_meet
        case rel => exact ⟨_, _, _, rfl, by rw [← hu.out]; exact h1.out, rfl⟩
      · have ht : m.take 40 = m := List.take_of_length_le (by omega)
        replace ht := Lib.hid ht
        go_wp2_with fail
        go_meet
        case rel => exact ⟨_, _, _, rfl, by rw [ht.out]; exact hb.out, rfl⟩
    case rest =>
      obtain ⟨a4, n4, c4, rfl, hs4, rfl⟩ := hcut
      clear hb40
      have hlt := List.length_take_le 40 l
      have hlm := List.length_take_le 40 m
      have hR1 := Lib.hid (ref01Right _ (l.take 40) w hs3.out (by omega))
      have hR2 := Lib.hid (fun W (hW : Below w.heap.size w W) => ref01Right _ (m.take 40) W (hs4.below hW) (by omega))
      have hl1 := M1.right_len (l.take 40)
      have hl2 := M1.right_len (m.take 40)
      have hr1 : (⟨(M1.right (l.take 40)).toArray⟩ : ByteArray).size ≤ 160 := by show (M1.right (l.take 40)).length ≤ _; omega
      have hr2 : (⟨(M1.right (m.take 40)).toArray⟩ : ByteArray).size ≤ 160 := by show (M1.right (m.take 40)).length ≤ _; omega
      clear hl1 hl2
      generalize (⟨(M1.right (l.take 40)).toArray⟩ : ByteArray) = ts at *
      generalize (⟨(M1.right (m.take 40)).toArray⟩ : ByteArray) = vs at *
      replace hs4 := Lib.hid hs4
      go_wp2_with fail
      refine hR1.out.mono ?_
      rintro e w1 ⟨rfl, hb1⟩
      go_wp2_with fail
      refine (hR2.out _ hb1).mono ?_
      rintro e w2 ⟨rfl, hb2⟩
      have hb02 := bt hb1 hb2
      clear hR1 hR2 hb1 hb2 hs3 hs4
      go_wp2_with fail
      have hts : (ts ++ ⟨#[120]⟩ : ByteArray).size = ts.size + 1 := by simp; rfl
      have x1 := (((Box.new w2 28 [.int .i64 1, .string ⟨#[98]⟩, .slice none 0 0, .string ⟨#[]⟩, .slice none 0 0]).alloc (.cells #[.string ⟨#[105, 100]⟩, .string vs] 44)).alloc (.cells #[.int .i64 2, .string ⟨#[]⟩, .slice none 0 0, .string (ts ++ ⟨#[120]⟩), .slice none 0 0] 28)).alloc (.cells #[.int .i64 1, .string ⟨#[98]⟩, .slice (some ⟨w2.heap.size + 1, 0, none⟩) 1 1, .string ⟨#[]⟩, .slice (some ⟨w2.heap.size + 1 + 1, 0, none⟩) 1 1] 28)
      have x2 := ((Box.new (w2.alloc (.cells #[.int .i64 1, .string ⟨#[98]⟩, .slice none 0 0, .string ⟨#[]⟩, .slice none 0 0] 28)) 44 [.string ⟨#[105, 100]⟩, .string vs]).alloc (.cells #[.int .i64 2, .string ⟨#[]⟩, .slice none 0 0, .string (ts ++ ⟨#[120]⟩), .slice none 0 0] 28)).alloc (.cells #[.int .i64 1, .string ⟨#[98]⟩, .slice (some ⟨w2.heap.size + 1, 0, none⟩) 1 1, .string ⟨#[]⟩, .slice (some ⟨w2.heap.size + 1 + 1, 0, none⟩) 1 1] 28)
      have x3 := (Box.new ((w2.alloc (.cells #[.int .i64 1, .string ⟨#[98]⟩, .slice none 0 0, .string ⟨#[]⟩, .slice none 0 0] 28)).alloc (.cells #[.string ⟨#[105, 100]⟩, .string vs] 44)) 28 [.int .i64 2, .string ⟨#[]⟩, .slice none 0 0, .string (ts ++ ⟨#[120]⟩), .slice none 0 0]).alloc (.cells #[.int .i64 1, .string ⟨#[98]⟩, .slice (some ⟨w2.heap.size + 1, 0, none⟩) 1 1, .string ⟨#[]⟩, .slice (some ⟨w2.heap.size + 1 + 1, 0, none⟩) 1 1] 28)
      have x4 := Box.new (((w2.alloc (.cells #[.int .i64 1, .string ⟨#[98]⟩, .slice none 0 0, .string ⟨#[]⟩, .slice none 0 0] 28)).alloc (.cells #[.string ⟨#[105, 100]⟩, .string vs] 44)).alloc (.cells #[.int .i64 2, .string ⟨#[]⟩, .slice none 0 0, .string (ts ++ ⟨#[120]⟩), .slice none 0 0] 28)) 28 [.int .i64 1, .string ⟨#[98]⟩, .slice (some ⟨w2.heap.size + 1, 0, none⟩) 1 1, .string ⟨#[]⟩, .slice (some ⟨w2.heap.size + 1 + 1, 0, none⟩) 1 1]
      have hB : Below w2.heap.size w2 ((((w2.alloc (.cells #[.int .i64 1, .string ⟨#[98]⟩, .slice none 0 0, .string ⟨#[]⟩, .slice none 0 0] 28)).alloc (.cells #[.string ⟨#[105, 100]⟩, .string vs] 44)).alloc (.cells #[.int .i64 2, .string ⟨#[]⟩, .slice none 0 0, .string (ts ++ ⟨#[120]⟩), .slice none 0 0] 28)).alloc (.cells #[.int .i64 1, .string ⟨#[98]⟩, .slice (some ⟨w2.heap.size + 1, 0, none⟩) 1 1, .string ⟨#[]⟩, .slice (some ⟨w2.heap.size + 1 + 1, 0, none⟩) 1 1] 28)) := ((((Below.refl _ w2).alloc (Nat.le_refl _) _).alloc (by simp) _).alloc (by simp; omega) _).alloc (by simp; omega) _
      simp only [World.size_alloc] at x2 x3 x4
      obtain ⟨W, hW⟩ : ∃ W, (((w2.alloc (.cells #[.int .i64 1, .string ⟨#[98]⟩, .slice none 0 0, .string ⟨#[]⟩, .slice none 0 0] 28)).alloc (.cells #[.string ⟨#[105, 100]⟩, .string vs] 44)).alloc (.cells #[.int .i64 2, .string ⟨#[]⟩, .slice none 0 0, .string (ts ++ ⟨#[120]⟩), .slice none 0 0] 28)).alloc (.cells #[.int .i64 1, .string ⟨#[98]⟩, .slice (some ⟨w2.heap.size + 1, 0, none⟩) 1 1, .string ⟨#[]⟩, .slice (some ⟨w2.heap.size + 1 + 1, 0, none⟩) 1 1] 28) = W := ⟨_, rfl⟩
      change Box ((((w2.alloc (.cells #[.int .i64 1, .string ⟨#[98]⟩, .slice none 0 0, .string ⟨#[]⟩, .slice none 0 0] 28)).alloc (.cells #[.string ⟨#[105, 100]⟩, .string vs] 44)).alloc (.cells #[.int .i64 2, .string ⟨#[]⟩, .slice none 0 0, .string (ts ++ ⟨#[120]⟩), .slice none 0 0] 28)).alloc (.cells #[.int .i64 1, .string ⟨#[98]⟩, .slice (some ⟨w2.heap.size + 1, 0, none⟩) 1 1, .string ⟨#[]⟩, .slice (some ⟨w2.heap.size + 1 + 1, 0, none⟩) 1 1] 28)) _ _ _ at x1 x2 x3 x4
      rw [hW] at x1 x2 x3 x4 hB ⊢
      clear hW
      have hRb : RepN (fun b => b < W.heap.size) W (.slice (some ⟨w2.heap.size, 0, none⟩) 1 1) [bareB1] :=
        ⟨_, Row.fresh x1 x1.lt rfl (by decide), RepC.cons_iff.2 ⟨_, _, _, rfl, Row.nil _ _ _, RepN.nil _ _, RepC.nil _ _⟩⟩
      have hRm : RepN (fun b => b < W.heap.size) W (.slice (some ⟨w2.heap.size + 1 + 1 + 1, 0, none⟩) 1 1) [moreB1 vs (ts ++ ⟨#[120]⟩)] := by
        refine ⟨_, Row.fresh x4 x4.lt rfl (by decide), RepC.cons_iff.2 ⟨_, _, _, rfl, Row.fresh x2 x2.lt rfl (by decide), ⟨_, Row.fresh x3 x3.lt rfl (by decide), ?_⟩, RepC.nil _ _⟩⟩
        exact RepC.cons_iff.2 ⟨_, _, _, rfl, Row.nil _ _ _, RepN.nil _ _, RepC.nil _ _⟩
      generalize htx0 : (ts ++ ⟨#[120]⟩ : ByteArray) = tx at *
      replace htx0 := Lib.hid htx0
      have hel1 := M2.escape_len true vs.data.toList
      have hel2 := M2.escape_len false tx.data.toList
      have hvs : vs.data.toList.length = vs.size := rfl
      have htx : tx.data.toList.length = tx.size := rfl
      have hLm := Lib.hid (show Calls Try.prog 32 #[.slice (some ⟨w2.heap.size + 1 + 1 + 1, 0, none⟩) 1 1] W (IntPost ((7 : Int) + 6 + ((M2.escape true vs.data.toList).length : Int) + ((M2.escape false tx.data.toList).length : Int)) W) from by
        have := writeLength _ _ [moreB1 vs tx] W (fun b h => h) hRm (moreB1_fit _ _ (by omega) (by omega)) (by rw [moreB1_len]; omega)
        rw [moreB1_len] at this
        exact this)
      have hLb := Lib.hid (fun W' (hW' : Below W.heap.size W W') => (show Calls Try.prog 32 #[.slice (some ⟨w2.heap.size, 0, none⟩) 1 1] W' (IntPost (7 : Int) W') from by
        have := writeLength _ _ [bareB1] W' (fun b h => Nat.lt_of_lt_of_le h hW'.size) (hRb.keep (fun b h => hW'.block b h)) bareB1_fit (by rw [bareB1_len]; omega)
        rw [bareB1_len] at this
        exact this))
      have hE1 := Lib.hid (fun W' => (show Calls Try.prog 41 #[.string vs, .bool true] W' (fun e w' => e = .returned (.string ⟨(M2.escape true vs.data.toList).toArray⟩) ∧ W' = w') from (ref02Escape vs true W' (by omega)).mono fun _ _ h => ⟨h.1, h.2.symm⟩))
      have hE2 := Lib.hid (fun W' => (show Calls Try.prog 41 #[.string tx, .bool false] W' (fun e w' => e = .returned (.string ⟨(M2.escape false tx.data.toList).toArray⟩) ∧ W' = w') from (ref02Escape tx false W' (by omega)).mono fun _ _ h => ⟨h.1, h.2.symm⟩))
      have hs1 : (⟨(M2.escape true vs.data.toList).toArray⟩ : ByteArray).size = (M2.escape true vs.data.toList).length := rfl
      have hs2 : (⟨(M2.escape false tx.data.toList).toArray⟩ : ByteArray).size = (M2.escape false tx.data.toList).length := rfl
      rw [← hs1] at hLm hel1
      rw [← hs2] at hLm hel2
      clear hs1 hs2 x1 x2 x3 x4 hRb hRm
      generalize (⟨(M2.escape true vs.data.toList).toArray⟩ : ByteArray) = e1 at *
      generalize (⟨(M2.escape false tx.data.toList).toArray⟩ : ByteArray) = e2 at *
      refine hLm.out.mono ?_
      rintro e w3 ⟨rfl, hb3⟩
      clear hLm
      go_wp2_with fail
      refine (hLb.out _ hb3).mono ?_
      rintro e w4 ⟨rfl, hb4⟩
      clear hLb
      go_wp2_with fail
      refine (hE1.out _).mono ?_
      rintro e w5 ⟨rfl, rfl⟩
      clear hE1
      go_wp2_with fail
      rw [htx0.out]
      refine (hE2.out _).mono ?_
      rintro e w5 ⟨rfl, rfl⟩
      clear hE2
      go_wp2_with fail
      refine (lives04 _).mono ?_
      rintro e w5 ⟨rfl, hb5⟩
      have hbb := bt (bt (bt (bt hb02 hB) hb3) hb4) hb5
      go_wp2_with fail
      go_ret
      exact ⟨rfl, hbb⟩
end Go.Proofs.Ytjelmpajphajfaa

/- Layer 4 by plain definitions: elements b with texts: as many < as tags. No program in it. -/
namespace Go.Proofs.Ytjelmpajphajfaa
namespace M4

/-- No sign of l is '<'. -/
def noLt (l : List UInt8) : Prop := ∀ c ∈ l, c ≠ 60
def cntB (l : List UInt8) : Nat := l.countP (fun c => c == 60)
theorem cntB_append (a b : List UInt8) : cntB (a ++ b) = cntB a + cntB b := List.countP_append
theorem cntB_no {l : List UInt8} (h : noLt l) : cntB l = 0 := by
  unfold cntB
  rw [List.countP_eq_zero]
  intro c hc
  simpa using h c hc
theorem noLt_append {a b : List UInt8} (ha : noLt a) (hb : noLt b) : noLt (a ++ b) := fun c hc => by
  rcases List.mem_append.1 hc with h | h
  · exact ha c h
  · exact hb c h
theorem noLt_escape (v : Bool) (l : List UInt8) : noLt (M2.escape v l) := by
  intro c hc
  unfold M2.escape at hc
  obtain ⟨x, _, hx⟩ := List.mem_flatMap.1 hc
  unfold M2.esc at hx
  split at hx
  · simp at hx; rcases hx with rfl | rfl | rfl | rfl | rfl <;> decide
  · split at hx
    · simp at hx; rcases hx with rfl | rfl | rfl | rfl <;> decide
    · rename_i h60
      split at hx
      · simp at hx; rcases hx with rfl | rfl | rfl | rfl <;> decide
      · split at hx
        · simp at hx; rcases hx with rfl | rfl | rfl | rfl | rfl | rfl <;> decide
        · simp at hx; subst hx; exact h60
def idN : ByteArray := ⟨#[105, 100]⟩
def bN : ByteArray := ⟨#[98]⟩
/-- An element b, its attributes' names id, its kids texts. -/
def bareish (x : Nd) : Prop := x.kind = 1 ∧ x.name = bN ∧ (∀ a ∈ x.attrs, a.name = idN) ∧ ∀ y ∈ x.kids, y.kind = 2
theorem atts_noLt (l : List Att) (h : ∀ a ∈ l, a.name = idN) : noLt (attsB l) := by
  intro c hc
  unfold attsB at hc
  obtain ⟨a, ha, hx⟩ := List.mem_flatMap.1 hc
  unfold attB at hx
  rw [h a ha] at hx
  simp only [List.mem_cons, List.mem_append] at hx
  rcases hx with rfl | hx | (rfl | rfl | hx) | hx | hx
  · decide
  · have : c = 105 ∨ c = 100 := by simpa [idN] using hx
    rcases this with rfl | rfl <;> decide
  · decide
  · decide
  · cases hx
  · exact noLt_escape _ _ c hx
  · rcases hx with rfl | hx
    · decide
    · cases hx
theorem texts_noLt (l : List Nd) (h : ∀ y ∈ l, y.kind = 2) : noLt (textB false l) := by
  induction l with
  | nil => rw [textB_nil]; intro c hc; cases hc
  | cons x r ih =>
    rw [textB_cons, oneB_2 (h x (by simp))]
    exact noLt_append (noLt_escape _ _) (ih (fun y hy => h y (by simp [hy])))
theorem bare_count (x : Nd) (h : bareish x) : cntB (oneB false x) = 2 := by
  obtain ⟨h1, h2, h3, h4⟩ := h
  rw [oneB_1 h1, h2, show M3.voidB bN.data.toList = false from rfl, show M3.rawB bN.data.toList = false from rfl, innerB_no, cntB_append, cntB_append, cntB_no (texts_noLt _ h4)]
  have e1 : cntB (headB bN x.attrs) = 1 := by
    unfold headB
    have : (60 :: (bN.data.toList ++ (attsB x.attrs ++ [62])) : List UInt8) = [60] ++ ([98] ++ (attsB x.attrs ++ [62])) := rfl
    rw [this, cntB_append, cntB_append, cntB_append, cntB_no (atts_noLt _ h3)]
    rfl
  have e2 : cntB (endB bN) = 1 := rfl
  omega
theorem bares_count (l : List Nd) (h : ∀ x ∈ l, bareish x) : cntB (textB false l) = 2 * l.length := by
  induction l with
  | nil => rw [textB_nil]; rfl
  | cons x r ih =>
    rw [textB_cons, cntB_append, bare_count x (h x (by simp)), ih (fun y hy => h y (by simp [hy])), List.length_cons]
    omega
theorem cut_kinds (l : List Nd) : ∀ m, (∀ y ∈ l, y.kind = 2) → ∀ y ∈ (M3.cut l m).1, y.kind = 2 := by
  induction l with
  | nil => intro m h y hy; rw [M3.cut_nil] at hy; cases hy
  | cons x r ih =>
    intro m h y hy
    cases m with
    | zero => rw [M3.cut_zero] at hy; cases hy
    | succ m =>
      rw [M3.cut_cons] at hy
      rcases List.mem_cons.1 hy with rfl | hy
      · exact h x (by simp)
      · exact ih _ (fun z hz => h z (by simp [hz])) y hy
theorem cut_bare (l : List Nd) : ∀ m, (∀ y ∈ l, bareish y) → ∀ y ∈ (M3.cut l m).1, bareish y := by
  induction l with
  | nil => intro m h y hy; rw [M3.cut_nil] at hy; cases hy
  | cons x r ih =>
    intro m h y hy
    cases m with
    | zero => rw [M3.cut_zero] at hy; cases hy
    | succ m =>
      rw [M3.cut_cons] at hy
      rcases List.mem_cons.1 hy with rfl | hy
      · obtain ⟨h1, h2, h3, h4⟩ := h x (by simp)
        refine ⟨h1, ?_, ?_, cut_kinds _ _ h4⟩
        · show M3.few x.name = _
          rw [h2]; rfl
        · intro a ha
          have ha : a ∈ (x.attrs.take 5).map M3.fewA := ha
          obtain ⟨b, hb, rfl⟩ := List.mem_map.1 ha
          show M3.few b.name = _
          rw [h3 b (List.mem_of_mem_take hb)]; rfl
      · exact ih _ (fun z hz => h z (by simp [hz])) y hy
theorem good_kinds (l : List Nd) (h : ∀ y ∈ l, y.kind = 2) : ∀ y ∈ M3.merge (M3.goodN l), y.kind = 2 := by
  refine M3.merge_all (P := fun y => y.kind = 2) (fun x y hx _ _ _ => by rw [M3.withText_kind]; exact hx) _ (fun y hy => ?_)
  rw [M3.goodN_map] at hy
  obtain ⟨z, hz, rfl⟩ := List.mem_map.1 hy
  have hk := h z hz
  unfold M3.good1 M3.kindN
  rw [hk, if_neg (show ¬ ((2 : Int) < 1 ∨ (3 : Int) < 2) by omega), if_neg (show ¬ ((2 : Int) = 1) by omega)]
  rfl
theorem good_bare (l : List Nd) (h : ∀ y ∈ l, bareish y) : ∀ y ∈ M3.good l, bareish y := by
  refine M3.merge_all (P := bareish) (fun x y hx _ h1 _ => by
    have : x.kind = 2 := by simpa [M3.isText] using h1
    have := hx.1
    omega) _ (fun y hy => ?_)
  rw [M3.goodN_map] at hy
  obtain ⟨z, hz, rfl⟩ := List.mem_map.1 hy
  obtain ⟨h1, h2, h3, h4⟩ := h z hz
  have hk : M3.kindN z.kind = 1 := by unfold M3.kindN; rw [h1]; rfl
  have hw : M3.wordN z.name = bN := by
    unfold M3.wordN
    rw [h2]
    rfl
  unfold M3.good1
  rw [if_pos hk]
  refine ⟨rfl, hw, ?_, good_kinds _ h4⟩
  refine M3.goodA_all z.attrs (fun a ha => ?_)
  show M3.attrN a.name = _
  rw [h3 a ha]
  have : M3.attributedB idN.data.toList = true := by
    unfold M3.attributedB
    rw [show M1.isB idN.data.toList = true from M3.isB_lo _ (by decide)]
    decide
  unfold M3.attrN
  rw [this]
  rfl
end M4
end Go.Proofs.Ytjelmpajphajfaa
