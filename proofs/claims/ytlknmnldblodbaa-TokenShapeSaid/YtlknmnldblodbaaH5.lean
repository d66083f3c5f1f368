/- Texts joined: Kmp, Tok10, AnyInv, Region, Tok11, Tok12, Math5f, TokM, Tok13, Tok14, Ref05i. -/
import Derived.OrdersIn
import Derived.StillTail
import Derived.RegionTactic
import Derived.Deep.RegionHeld3
import Derived.Test.YtlknmnldblodbaaH1
import Derived.Test.YtlknmnldblodbaaH2
import Derived.Test.YtlknmnldblodbaaH3
import Derived.Test.YtlknmnldblodbaaH4
/- A word found in a text by how much of it stands right ahead: no program in it. -/
namespace Go.Proofs.Ytlknmnldblodbaa.Kmp

def Low (u : List UInt8) : Prop := ∀ x ∈ u, M1.small x = x
/-- So many of the word's bytes stand right at the text's end, and no more. -/
def IsL (wd u : List UInt8) (h : Nat) : Prop := h ≤ wd.length ∧ wd.take h <:+ u ∧ ∀ k, k ≤ wd.length → wd.take k <:+ u → k ≤ h
def MB (wd : List UInt8) (j b : Nat) : Prop := b < j ∧ wd.take b <:+ wd.take j ∧ ∀ k, k < j → wd.take k <:+ wd.take j → k ≤ b
def Tab (wd : List UInt8) (bk : Nat → Nat) (M : Nat) : Prop := ∀ j, 1 ≤ j → j ≤ M → bk j < j ∧ (Low (wd.take j) → MB wd j (bk j))
def Cand (wd u : List UInt8) (c : UInt8) (h : Nat) : Prop := wd.take h <:+ u ∧ ∀ k, k ≤ wd.length → wd.take k <:+ u ++ [c] → k ≤ h + 1

theorem suf_snoc {a u : List UInt8} {x c : UInt8} (h : a ++ [x] <:+ u ++ [c]) : a <:+ u ∧ x = c := by
  obtain ⟨t, ht⟩ := h
  rw [← List.append_assoc] at ht
  have := List.append_inj' ht rfl
  exact ⟨⟨t, this.1⟩, by simpa using this.2⟩
theorem take_snoc (wd : List UInt8) (k : Nat) (h : k < wd.length) : wd.take (k + 1) = wd.take k ++ [wd[k]] := List.take_succ_eq_append_getElem h
theorem cand_of {wd u : List UInt8} {c : UInt8} {h : Nat} (hl : IsL wd u h) : Cand wd u c h := by
  refine ⟨hl.2.1, fun k hk hs => ?_⟩
  cases k with
  | zero => omega
  | succ k =>
    rw [take_snoc wd k (by omega)] at hs
    have := hl.2.2 k (by omega) (suf_snoc hs).1
    omega
theorem cand_hit {wd u : List UInt8} {c : UInt8} {h : Nat} (hc : Cand wd u c h) (hh : h < wd.length) (he : wd[h] = c) : IsL wd (u ++ [c]) (h + 1) := by
  refine ⟨hh, ?_, hc.2⟩
  rw [take_snoc wd h hh, he]
  obtain ⟨t, ht⟩ := hc.1
  exact ⟨t, by rw [← List.append_assoc, ht]⟩
theorem cand_zero {wd u : List UInt8} {c : UInt8} (hc : Cand wd u c 0) (hh : 0 < wd.length) (he : wd[0] ≠ c) : IsL wd (u ++ [c]) 0 := by
  refine ⟨Nat.zero_le _, ⟨u ++ [c], by simp⟩, fun k hk hs => ?_⟩
  have h1 := hc.2 k hk hs
  rcases Nat.lt_or_ge 0 k with h | h
  · obtain rfl : k = 1 := by omega
    rw [take_snoc wd 0 hh] at hs
    exact absurd (suf_snoc hs).2 he
  · exact h
theorem low_suf {a u : List UInt8} (h : a <:+ u) (hu : Low u) : Low a := fun x hx => hu x (h.subset hx)
theorem cand_miss {wd u : List UInt8} {c : UInt8} {h M : Nat} {bk : Nat → Nat} (hu : Low u) (ht : Tab wd bk M) (h1 : 1 ≤ h) (hM : h ≤ M) (hn : h ≤ wd.length) (hc : Cand wd u c h) (he : ∀ hh : h < wd.length, wd[h] ≠ c) : Cand wd u c (bk h) := by
  obtain ⟨hb1, hb2⟩ := ht h h1 hM
  obtain ⟨m1, m2, m3⟩ := hb2 (low_suf hc.1 hu)
  refine ⟨m2.trans hc.1, fun k hk hs => ?_⟩
  have h2 := hc.2 k hk hs
  cases k with
  | zero => omega
  | succ k =>
    rw [take_snoc wd k (by omega)] at hs
    obtain ⟨s1, s2⟩ := suf_snoc hs
    by_cases hkh : k = h
    · subst hkh
      exact absurd s2 (he (by omega))
    · have hlt : k < h := by omega
      have := m3 k hlt (List.suffix_of_suffix_length_le s1 hc.1 (by rw [List.length_take, List.length_take]; omega))
      omega
/-- What a step answers. -/
def Strides (wd : List UInt8) (h : Nat) (c : UInt8) (r : Nat) : Prop := r ≤ h + 1 ∧ r ≤ wd.length ∧ ∀ u, Low u → IsL wd u h → IsL wd (u ++ [M1.small c]) r
theorem isL_nil (wd : List UInt8) : IsL wd [] 0 := by
  refine ⟨Nat.zero_le _, ⟨[], by simp⟩, fun k hk hs => ?_⟩
  have := hs.length_le
  rw [List.length_take, List.length_nil] at this
  omega
/-- The table's first entry, and its next one. -/
theorem tab_one (wd : List UInt8) (bk : Nat → Nat) (h : bk 1 = 0) : Tab wd bk 1 := by
  intro j h1 h2
  obtain rfl : j = 1 := by omega
  rw [h]
  refine ⟨by omega, fun _ => ⟨by omega, ⟨wd.take 1, by simp⟩, fun k hk _ => by omega⟩⟩
theorem isL_mb {wd : List UInt8} {i b : Nat} (h1 : 1 ≤ i) (hi : i ≤ wd.length) (h : MB wd i b) : IsL wd ((wd.take i).drop 1) b := by
  have hlen : (wd.take i).length = i := by rw [List.length_take]; omega
  refine ⟨by have := h.1; omega, ?_, fun k hk hs => ?_⟩
  · refine List.suffix_of_suffix_length_le h.2.1 (List.drop_suffix 1 _) ?_
    rw [List.length_drop, hlen, List.length_take]
    have := h.1
    omega
  · have hl := hs.length_le
    rw [List.length_drop, hlen, List.length_take] at hl
    exact h.2.2 k (by omega) (hs.trans (List.drop_suffix 1 _))
theorem mb_isL {wd : List UInt8} {i b : Nat} (h1 : 1 ≤ i) (hi : i ≤ wd.length) (h : IsL wd ((wd.take i).drop 1) b) : MB wd i b := by
  have hlen : (wd.take i).length = i := by rw [List.length_take]; omega
  have hl := h.2.1.length_le
  rw [List.length_drop, hlen, List.length_take] at hl
  have hb := h.1
  refine ⟨by omega, h.2.1.trans (List.drop_suffix 1 _), fun k hk hs => ?_⟩
  refine h.2.2 k (by omega) (List.suffix_of_suffix_length_le hs (List.drop_suffix 1 _) ?_)
  rw [List.length_drop, hlen, List.length_take]
  omega
theorem tab_next {wd : List UInt8} {bk : Nat → Nat} {i : Nat} (h1 : 1 ≤ i) (hi : i < wd.length) (ht : Tab wd bk i) (r : Nat) (hr : Strides wd (bk i) wd[i] r) :
    Tab wd (fun j => if j = i + 1 then r else bk j) (i + 1) := by
  intro j j1 j2
  obtain ⟨t1, t2⟩ := ht i h1 (Nat.le_refl _)
  by_cases hj : j = i + 1
  · subst hj
    simp only [if_true]
    refine ⟨by have := hr.1; omega, fun hlow => ?_⟩
    have hlow1 : Low (wd.take i) := fun x hx => hlow x (by rw [take_snoc wd i hi]; exact List.mem_append_left _ hx)
    have hsm : M1.small wd[i] = wd[i] := hlow _ (by rw [take_snoc wd i hi]; exact List.mem_append_right _ (List.mem_singleton_self _))
    have hL := hr.2.2 _ (low_suf (List.drop_suffix 1 _) hlow1) (isL_mb h1 (by omega) (t2 hlow1))
    refine mb_isL (by omega) (by omega) ?_
    rw [hsm] at hL
    have e : (wd.take (i + 1)).drop 1 = (wd.take i).drop 1 ++ [wd[i]] := by
      rw [take_snoc wd i hi, List.drop_append_of_le_length (by rw [List.length_take]; omega)]
    rw [e]
    exact hL
  · simp only [if_neg hj]
    exact ht j j1 (by omega)

/-! ### Where a raw element ends -/
def Hit (wd l : List UInt8) (j : Nat) : Prop := M1.fold ((l.drop j).take wd.length) = wd ∧ ∃ h : j + wd.length < l.length, edgeB l[j + wd.length] = true
theorem ends_cons (wd : List UInt8) (c : UInt8) (r : List UInt8) : (Hit wd (c :: r) 0 → M5.endsL wd (c :: r) = some 0) ∧ (¬ Hit wd (c :: r) 0 → M5.endsL wd (c :: r) = (M5.endsL wd r).map (· + 1)) := by
  rw [M5.endsL]
  constructor
  · rintro ⟨h1, h2, h3⟩
    rw [Nat.zero_add] at h2
    have e : (c :: r).drop wd.length = (c :: r)[wd.length] :: (c :: r).drop (wd.length + 1) := List.drop_eq_getElem_cons h2
    rw [List.drop_zero] at h1
    rw [e, h1]
    have h3' : edgeB (c :: r)[wd.length] = true := by simpa using h3
    rw [if_pos]
    rw [beq_self_eq_true, Bool.true_and]
    exact h3'
  · intro h
    rw [if_neg]
    intro h'
    apply h
    rw [Bool.and_eq_true] at h'
    obtain ⟨h1, h2⟩ := h'
    refine ⟨by rw [List.drop_zero]; exact beq_iff_eq.1 h1, ?_⟩
    by_cases hl : wd.length < (c :: r).length
    · refine ⟨by rw [Nat.zero_add]; exact hl, ?_⟩
      have e : (c :: r).drop wd.length = (c :: r)[wd.length] :: (c :: r).drop (wd.length + 1) := List.drop_eq_getElem_cons hl
      rw [e] at h2
      have h2' : edgeB (c :: r)[wd.length] = true := h2
      simpa using h2'
    · rw [List.drop_of_length_le (by omega)] at h2
      cases h2
theorem hit_cons (wd : List UInt8) (c : UInt8) (r : List UInt8) (j : Nat) : Hit wd (c :: r) (j + 1) ↔ Hit wd r j := by
  unfold Hit
  rw [List.drop_succ_cons]
  constructor
  · rintro ⟨h1, h2, h3⟩
    have h2' : j + wd.length < r.length := by simp only [List.length_cons] at h2; omega
    refine ⟨h1, h2', ?_⟩
    have e : (c :: r)[j + 1 + wd.length] = r[j + wd.length] := by
      rw [List.getElem_cons]
      rw [dif_neg (by omega)]
      congr 1
      omega
    rw [← e]
    exact h3
  · rintro ⟨h1, h2, h3⟩
    have h2' : j + 1 + wd.length < (c :: r).length := by simp only [List.length_cons]; omega
    refine ⟨h1, h2', ?_⟩
    have e : (c :: r)[j + 1 + wd.length] = r[j + wd.length] := by
      rw [List.getElem_cons]
      rw [dif_neg (by omega)]
      congr 1
      omega
    rw [e]
    exact h3
theorem ends_some (wd : List UInt8) : ∀ (l : List UInt8) (j : Nat), Hit wd l j → (∀ k, k < j → ¬ Hit wd l k) → M5.endsL wd l = some j := by
  intro l
  induction l with
  | nil => intro j h; obtain ⟨_, h2, _⟩ := h; simp at h2
  | cons c r ih =>
    intro j h hn
    cases j with
    | zero => exact (ends_cons wd c r).1 h
    | succ j =>
      rw [(ends_cons wd c r).2 (hn 0 (by omega)), ih j ((hit_cons wd c r j).1 h) (fun k hk h' => hn (k + 1) (by omega) ((hit_cons wd c r k).2 h'))]
      rfl
theorem ends_none (wd : List UInt8) : ∀ (l : List UInt8), (∀ k, ¬ Hit wd l k) → M5.endsL wd l = none := by
  intro l
  induction l with
  | nil => intro _; rfl
  | cons c r ih =>
    intro hn
    rw [(ends_cons wd c r).2 (hn 0), ih (fun k h' => hn (k + 1) ((hit_cons wd c r k).2 h'))]
    rfl
/-- A whole word right ahead of a place. -/
theorem hit_iff {wd l : List UInt8} {i h : Nat} (hi : i < l.length) (hL : IsL wd (M1.fold (l.take i)) h) (hw : wd.length ≤ i) : Hit wd l (i - wd.length) ↔ (h = wd.length ∧ edgeB l[i] = true) := by
  have hfl : M1.fold (l.take i) = M1.fold (l.take (i - wd.length)) ++ M1.fold ((l.drop (i - wd.length)).take wd.length) := by
    unfold M1.fold
    rw [← List.map_append]
    congr 1
    have : l.take i = l.take ((i - wd.length) + wd.length) := by rw [Nat.sub_add_cancel hw]
    rw [this, List.take_add]
  have hx : M1.fold ((l.drop (i - wd.length)).take wd.length) = wd ↔ h = wd.length := by
    constructor
    · intro e
      have := hL.2.2 wd.length (Nat.le_refl _) (by rw [List.take_length, hfl, e]; exact ⟨_, rfl⟩)
      have := hL.1
      omega
    · intro e
      subst e
      have h2 := hL.2.1
      rw [List.take_length, hfl] at h2
      have hlen : (M1.fold ((l.drop (i - wd.length)).take wd.length)).length = wd.length := by
        unfold M1.fold
        rw [List.length_map, List.length_take, List.length_drop]
        omega
      obtain ⟨t, ht⟩ := h2
      exact (List.append_inj' ht (by rw [hlen])).2.symm
  unfold Hit
  rw [hx]
  constructor
  · rintro ⟨h1, h2, h3⟩
    refine ⟨h1, ?_⟩
    simpa [Nat.sub_add_cancel hw] using h3
  · rintro ⟨h1, h3⟩
    exact ⟨h1, by omega, by simpa [Nat.sub_add_cancel hw] using h3⟩
theorem fold_snoc (l : List UInt8) (i : Nat) (h : i < l.length) : M1.fold (l.take (i + 1)) = M1.fold (l.take i) ++ [M1.small l[i]] := by
  unfold M1.fold
  rw [List.take_succ_eq_append_getElem h, List.map_append]
  rfl
theorem low_fold (l : List UInt8) : Low (M1.fold l) := by
  intro x hx
  unfold M1.fold at hx
  obtain ⟨y, _, rfl⟩ := List.mem_map.1 hx
  exact M1.small_small y
end Go.Proofs.Ytlknmnldblodbaa.Kmp

/- Package token: how much of a word stands right ahead: a step of the closure that follow makes. -/
namespace Go.Proofs.Ytlknmnldblodbaa
open Go.RowKit Kmp

def rowI (wd : List UInt8) (bk : Nat → Nat) : List Value := (List.range (wd.length + 1)).map fun j => Value.int .i64 (bk j : Int)
theorem rowI_len (wd : List UInt8) (bk : Nat → Nat) : (rowI wd bk).length = wd.length + 1 := by simp [rowI]
theorem rowI_get (wd : List UInt8) (bk : Nat → Nat) (j : Nat) (h : j ≤ wd.length) : (rowI wd bk)[j]? = some (.int .i64 (bk j : Int)) := by
  unfold rowI
  rw [List.getElem?_map, List.getElem?_range (by omega)]
  rfl
/-- The word and its table, where the closure has them. -/
structure FMem (wd : List UInt8) (bk : Nat → Nat) (g1 g2 ga : Nat) (w : World) : Prop where
  word : Box w g1 9 [.string (M5.bs wd)]
  slice : Box w g2 80 [.slice (some ⟨ga, 0, none⟩) (wd.length + 1) (wd.length + 1)]
  row : MutRow w ga (rowI wd bk)
theorem mutRow_lt {w : World} {g : Nat} {xs : List Value} (h : MutRow w g xs) (hx : 0 < xs.length) : g < w.heap.size := World.block_lt_of_cell? w ⟨g, 0, none⟩ (h 0 hx).1
theorem mutRow_below {w w' : World} {g B : Nat} {xs : List Value} (h : MutRow w g xs) (hb : Below B w w') (hg : g < B) : MutRow w' g xs := fun j hj => by
  obtain ⟨h1, h2⟩ := h j hj
  exact ⟨by rw [hb.cell (p := ⟨g, j, none⟩) hg]; exact h1, by rw [hb.frozen (p := ⟨g, j, none⟩) hg]; exact h2⟩
theorem FMem.below {wd : List UInt8} {bk : Nat → Nat} {g1 g2 ga : Nat} {w w' : World} (h : FMem wd bk g1 g2 ga w) (hb : Below w.heap.size w w') : FMem wd bk g1 g2 ga w' :=
  ⟨h.word.below hb h.word.lt, h.slice.below hb h.slice.lt, mutRow_below h.row hb (mutRow_lt h.row (by rw [rowI_len]; omega))⟩
theorem pre_one (s : ByteArray) (p : UInt8) (h : 0 < s.size) : M1.prefixB s.data.toList [p] = (M1.small s[0] == p) := by
  have := drop_cons s 0 h
  rw [List.drop_zero] at this
  rw [this]
  show (decide (1 ≤ (s[0] :: s.data.toList.drop 1).length) && ([M1.small s[0]] == [p])) = _
  rw [decide_eq_true (by simp), Bool.true_and]
  show (M1.small s[0] == p && ([] : List UInt8) == []) = _
  simp
theorem one_cut (wd : List UInt8) (h : Nat) (hh : h < wd.length) : ((M5.bs wd).extract h (h + 1)).data.toList = [wd[h]] := by
  rw [Lib.extract_data, M5.bs_data, List.drop_eq_getElem_cons hh, show h + 1 - h = 1 by omega]
  rfl

def StepPost (wd : List UInt8) (h : Nat) (c : UInt8) (w : World) (e : Ending) (w' : World) : Prop := ∃ r : Nat, Strides wd h c r ∧ e = .returned (.int .i64 (r : Int)) ∧ Below w.heap.size w w'

set_option maxHeartbeats 4000000 in
set_option maxRecDepth 100000 in
theorem tokStep (wd : List UInt8) (bk : Nat → Nat) (h M : Nat) (left : ByteArray) (w : World) (g1 g2 ga : Nat) (hm : FMem wd bk g1 g2 ga w) (hw1 : 0 < wd.length) (hw2 : wd.length ≤ 2147483648) (hh : h ≤ wd.length) (hM : h ≤ M) (ht : Tab wd bk M) (hl1 : 0 < left.size) (hl2 : left.size ≤ 1073741826) :
    Calls Try.prog 70 #[.int .i64 (h : Int), .string left, .pointer (some ⟨g1, 0, none⟩), .pointer (some ⟨g2, 0, none⟩)] w (StepPost wd h left[0] w) := by
  obtain ⟨wo, rfl⟩ : ∃ wo : World, wo = w := ⟨_, rfl⟩
  have hP := Lib.hid (fun (k : Nat) (hk : k < wd.length) w => utfPrefix left ((M5.bs wd).extract k (k + 1)) w (by omega) (by rw [ByteArray.size_extract]; omega))
  obtain ⟨c, hc⟩ : ∃ c, Hid (c = M1.small left[0]) := ⟨M1.small left[0], Lib.hid rfl⟩
  have hQ : Hid (∀ (k : Nat) (hk : k < wd.length) w, Calls Try.prog 71 #[.string left, .string ((M5.bs wd).extract k (k + 1))] w (fun e w' => e = .returned (.bool (c == wd[k])) ∧ Below w.heap.size w w')) := Lib.hid (fun k hk w => (hP.out k hk w).mono (by
    rintro e w' ⟨rfl, hb⟩
    rw [one_cut wd k hk, pre_one left wd[k] hl1, ← hc.out]
    exact ⟨rfl, hb⟩))
  have hbz : (M5.bs wd).size = wd.length := bs_size wd
  have hgoal : ∀ (r : Nat) (w' : World), r ≤ h + 1 → r ≤ wd.length → (∀ u, Low u → IsL wd u h → IsL wd (u ++ [c]) r) → Below wo.heap.size wo w' → StepPost wd h left[0] wo (.returned (.int .i64 (r : Int))) w' := fun r w' h1 h2 h3 hb => ⟨r, ⟨h1, h2, by rw [← hc.out]; exact h3⟩, rfl, hb⟩
  replace hgoal := Lib.hid hgoal
  generalize StepPost wd h left[0] wo = Post at *
  clear hP
  go_enter Try.func70, Try.ntmps70
  go_wp2_with fail
  go_loopw [0] (fun u0 wr => ∃ k : Nat, u0 = .int .i64 (k : Int) ∧ k ≤ h ∧ Below wo.heap.size wo wr ∧ Hid (∀ u, Low u → IsL wd u h → Cand wd u c k)) (fun u0 _ => (intOf u0).toNat)
  case atStart => exact ⟨h, rfl, Nat.le_refl _, Below.refl _ _, Lib.hid (fun u _ hl => cand_of hl)⟩
  case round =>
    obtain ⟨k, rfl, hk, hbw, hcand⟩ := hrel
    have hm1 := hm.below hbw
    have x0 := hm1.word.cell (i := 0) rfl
    have y0 := hm1.slice.cell (i := 0) rfl
    have hrow := rowI_get wd bk k (by omega)
    obtain ⟨r0, rf0⟩ := hm1.row.at hrow
    have hback : (∀ hh : k < wd.length, wd[k] ≠ c) → 1 ≤ k → bk k < k ∧ Hid (∀ u, Low u → IsL wd u h → Cand wd u c (bk k)) := fun he h1 =>
      ⟨(ht k h1 (by omega)).1, Lib.hid (fun u hu hl => cand_miss hu ht h1 (by omega) (by omega) (hcand.out u hu hl) he)⟩
    by_cases hkn : k = wd.length
    · obtain ⟨hb1, hb2⟩ := hback (fun hh => by omega) (by omega)
      have ekn : ((k : Int) == (wd.length : Int)) = true := by rw [beq_iff_eq]; omega
      generalize bk k = b at *
      replace hkn := Lib.hid hkn
      clear hback hcand
      go_wp2_with fail
      go_roundw
      case rel => exact ⟨b, rfl, by omega, hbw, hb2⟩
      case measure => simp [intOf]; omega
    · have ekn : ((k : Int) == (wd.length : Int)) = false := by rw [beq_eq_false_iff_ne]; omega
      have hlt : k < wd.length := by omega
      have hC := Lib.hid (fun w => hQ.out k hlt w)
      have hhit : (c == wd[k]) = true → Hid (∀ u, Low u → IsL wd u h → IsL wd (u ++ [c]) (k + 1)) := fun he => Lib.hid (fun u hu hl => cand_hit (hcand.out u hu hl) hlt (beq_iff_eq.1 he).symm)
      have hzero : (c == wd[k]) = false → k = 0 → Hid (∀ u, Low u → IsL wd u h → IsL wd (u ++ [c]) 0) := fun he h0 => by
        subst h0
        exact Lib.hid (fun u hu hl => cand_zero (hcand.out u hu hl) hlt (fun e => by rw [e, beq_self_eq_true] at he; cases he))
      have hmiss : (c == wd[k]) = false → 1 ≤ k → bk k < k ∧ Hid (∀ u, Low u → IsL wd u h → Cand wd u c (bk k)) := fun he h1 => hback (fun _ e => by rw [← e, beq_self_eq_true] at he; cases he) h1
      generalize (c == wd[k]) = hit at *
      clear hback hcand
      replace hkn := Lib.hid hkn
      cases hit
      · by_cases hk0 : k = 0
        · have hz := hzero rfl hk0
          subst hk0
          clear hzero hhit hmiss
          go_wp2_with fail
          refine (hC.out _).mono ?_
          rintro e1 w2 ⟨rfl, hb2⟩
          go_wp2_with fail
          exact hgoal.out 0 _ (by omega) (by omega) hz.out (bt hbw hb2)
        · obtain ⟨hb1, hb2⟩ := hmiss rfl (by omega)
          generalize bk k = b at *
          clear hzero hhit hmiss
          replace hb2 := Lib.hid hb2
          have hgt : decide ((0 : Int) < (k : Int)) = true := decide_eq_true (by omega)
          go_wp2_with fail
          refine (hC.out _).mono ?_
          rintro e1 w2 ⟨rfl, hbq⟩
          have hm2 := hm1.below hbq
          have x0 := hm2.word.cell (i := 0) rfl
          have y0 := hm2.slice.cell (i := 0) rfl
          obtain ⟨r0, rf0⟩ := hm2.row.at hrow
          go_wp2_with fail
          go_roundw
          case rel => exact ⟨b, rfl, by omega, bt hbw hbq, hb2.out⟩
          case measure => simp [intOf]; omega
      · have hz := hhit rfl
        clear hzero hhit hmiss
        by_cases hk0 : k = 0
        · subst hk0
          go_wp2_with fail
          refine (hC.out _).mono ?_
          rintro e1 w2 ⟨rfl, hb2⟩
          go_wp2_with fail
          exact hgoal.out 1 _ (by omega) (by omega) hz.out (bt hbw hb2)
        · have hgt : decide ((0 : Int) < (k : Int)) = true := decide_eq_true (by omega)
          go_wp2_with fail
          refine (hC.out _).mono ?_
          rintro e1 w2 ⟨rfl, hbq⟩
          have hm2 := hm1.below hbq
          have x0 := hm2.word.cell (i := 0) rfl
          go_wp2_with fail
          refine (hC.out _).mono ?_
          rintro e1 w3 ⟨rfl, hbq3⟩
          go_wp2_with fail
          exact hgoal.out (k + 1) _ (by omega) (by omega) hz.out (bt (bt hbw hbq) hbq3)
end Go.Proofs.Ytlknmnldblodbaa

/- A region that draws its order, by a state of my own: what holds whichever operations stand behind. -/
namespace Go.Proofs.Ytlknmnldblodbaa

def updF (f : Nat → Bool) (i : Nat) : Nat → Bool := fun j => if j = i then true else f j
@[simp] theorem updF_same (f : Nat → Bool) (i : Nat) : updF f i i = true := by simp [updF]
theorem updF_ne (f : Nat → Bool) {i j : Nat} (h : j ≠ i) : updF f i j = f j := by simp [updF, h]
/-- Each operation waits for earlier ones alone. -/
def ordB (md : Region.Mode) (ops : Array Oper) : Bool :=
  (List.range ops.size).all fun i => match ops[i]? with | some o => o.after.all fun e => !Region.binds md e || decide (e.on < i) | none => true
theorem ordB_spec {md : Region.Mode} {ops : Array Oper} (h : ordB md ops = true) {i : Nat} {o : Oper} (hi : ops[i]? = some o) {e : Edge} (he : e ∈ o.after) (hb : Region.binds md e = true) : e.on < i := by
  have hlt := (Array.getElem?_eq_some_iff.1 hi).1
  unfold ordB at h
  rw [List.all_eq_true] at h
  have := h i (List.mem_range.2 hlt)
  rw [hi] at this
  simp only [Array.all_eq_true_iff_forall_mem, Bool.or_eq_true, Bool.not_eq_true', decide_eq_true_eq] at this
  rcases this e he with h | h
  · rw [hb] at h; cases h
  · exact h
def flags (listed : Array Bool) : Nat → Bool := fun i => listed.getD i true
theorem flags_set (listed : Array Bool) (i : Nat) : flags (listed.setIfInBounds i true) = updF (flags listed) i := by
  funext j
  unfold flags updF
  by_cases h : j = i
  · subst h
    rcases Nat.lt_or_ge j listed.size with h | h
    · simp [h]
    · simp
  · rw [if_neg h, getD_set_ne true (Ne.symm h)]
theorem flags_false {listed : Array Bool} {i : Nat} (h : listed.getD i false = true) : flags listed i = true := by
  unfold flags
  rcases Nat.lt_or_ge i listed.size with h' | h'
  · simp [h'] at h ⊢; exact h
  · simp [Array.getElem?_eq_none h'] at h
theorem false_flags {listed : Array Bool} {i : Nat} (hi : i < listed.size) (h : flags listed i = true) : listed.getD i false = true := by
  unfold flags at h
  simp [hi] at h ⊢; exact h

theorem all_of_ready_nil {md : Region.Mode} {ops : Array Oper} (hord : ordB md ops = true) {listed : Array Bool} (hs : listed.size = ops.size) (hr : Region.ready md ops listed = []) :
    ∀ i, i < ops.size → flags listed i = true := by
  intro i
  induction i using Nat.strongRecOn with
  | ind i ih =>
    intro hi
    cases hf : flags listed i with
    | true => rfl
    | false =>
      have : i ∈ Region.ready md ops listed := mem_ready.2 ⟨hf, ops[i], Array.getElem?_eq_getElem hi, fun e he hb => by
        have hlt := ordB_spec hord (Array.getElem?_eq_getElem hi) he hb
        exact false_flags (by rw [hs]; exact Nat.lt_trans hlt hi) (ih e.on hlt (Nat.lt_trans hlt hi))⟩
      rw [hr] at this; cases this

def leftOf (listed : Array Bool) : Nat := listed.toList.countP (fun b => !b)
theorem leftOf_set {listed : Array Bool} {i : Nat} (h : flags listed i = false) : leftOf (listed.setIfInBounds i true) + 1 = leftOf listed := by
  have hi : i < listed.size := by
    rcases Nat.lt_or_ge i listed.size with h' | h'
    · exact h'
    · simp [flags, Array.getElem?_eq_none h'] at h
  have hv : listed.toList[i]'(by simpa using hi) = false := by simpa [flags, hi] using h
  unfold leftOf
  rw [Array.toList_setIfInBounds]
  have h2 : i < listed.toList.length := by simpa using hi
  rw [List.countP_set h2, hv]
  have hp : 0 < listed.toList.countP (fun b => !b) := List.countP_pos_iff.2 ⟨false, by rw [← hv]; exact List.getElem_mem h2, rfl⟩
  simp only [Bool.not_true, Bool.not_false, if_true, Bool.false_eq_true, if_false]
  omega

theorem wpAnyIn_inv {F : Fence} {n : Nat} {P : Program} {md : Region.Mode} {ops : Array Oper} {Q : Exit → Act → World → Prop} (Inv : (Nat → Bool) → Act → World → Prop) (hord : ordB md ops = true)
    (hstep : ∀ i, i < ops.size → ∀ (f : Nat → Bool) (a : Act) (w : World), f i = false → (∀ j, Region.waitsFor md ops i j = true → f j = true) → Inv f a w → wpOpIn F n P ops Q i (Inv (updF f i)) a w)
    (hdone : ∀ (f : Nat → Bool) (a : Act) (w : World), (∀ i, i < ops.size → f i = true) → Inv f a w → Q .normal a w) :
    ∀ (fuel : Nat) (listed : Array Bool) (a : Act) (w : World), listed.size = ops.size → leftOf listed ≤ fuel → Inv (flags listed) a w → wpAnyIn F n P md ops Q fuel listed a w := by
  intro fuel
  induction fuel with
  | zero =>
    intro listed a w hs hl h
    have hr : Region.ready md ops listed = [] := by
      rw [List.eq_nil_iff_forall_not_mem]
      intro i hi
      have := leftOf_set (mem_ready.1 hi).1
      omega
    exact ⟨hr, hdone _ _ _ (all_of_ready_nil hord hs hr) h⟩
  | succ fuel ih =>
    intro listed a w hs hl h
    refine ⟨fun hr => hdone _ _ _ (all_of_ready_nil hord hs hr) h, fun i hi => ?_⟩
    obtain ⟨h0, o, ho, hall⟩ := mem_ready.1 hi
    have hlt := (Array.getElem?_eq_some_iff.1 ho).1
    refine wpOpIn_mono (fun a' w' h' => ih (listed.setIfInBounds i true) a' w' (by simpa using hs) (by have := leftOf_set h0; omega) ?_) (hstep i hlt (flags listed) a w h0 (fun j hj => ?_) h)
    · rw [flags_set]; exact h'
    · obtain ⟨oj, hoj, e, he, hb, rfl⟩ := Region.waitsFor_spec hj
      rw [ho] at hoj; cases hoj
      exact flags_false (hall e he hb)
theorem wpAny_inv {P : Program} {md : Region.Mode} {ops : Array Oper} {Q : Exit → Act → World → Prop} (Inv : (Nat → Bool) → Act → World → Prop) (hord : ordB md ops = true)
    (hstep : ∀ i, i < ops.size → ∀ (f : Nat → Bool) (a : Act) (w : World), f i = false → (∀ j, Region.waitsFor md ops i j = true → f j = true) → Inv f a w → wpOp P ops Q i (Inv (updF f i)) a w)
    (hdone : ∀ (f : Nat → Bool) (a : Act) (w : World), (∀ i, i < ops.size → f i = true) → Inv f a w → Q .normal a w) :
    ∀ (fuel : Nat) (listed : Array Bool) (a : Act) (w : World), listed.size = ops.size → leftOf listed ≤ fuel → Inv (flags listed) a w → wpAny P md ops Q fuel listed a w := by
  intro fuel
  induction fuel with
  | zero =>
    intro listed a w hs hl h
    have hr : Region.ready md ops listed = [] := by
      rw [List.eq_nil_iff_forall_not_mem]
      intro i hi
      have := leftOf_set (mem_ready.1 hi).1
      omega
    exact ⟨hr, hdone _ _ _ (all_of_ready_nil hord hs hr) h⟩
  | succ fuel ih =>
    intro listed a w hs hl h
    refine ⟨fun hr => hdone _ _ _ (all_of_ready_nil hord hs hr) h, fun i hi => ?_⟩
    obtain ⟨h0, o, ho, hall⟩ := mem_ready.1 hi
    have hlt := (Array.getElem?_eq_some_iff.1 ho).1
    refine wpOp_mono (fun a' w' h' => ih (listed.setIfInBounds i true) a' w' (by simpa using hs) (by have := leftOf_set h0; omega) ?_) (hstep i hlt (flags listed) a w h0 (fun j hj => ?_) h)
    · rw [flags_set]; exact h'
    · obtain ⟨oj, hoj, e, he, hb, rfl⟩ := Region.waitsFor_spec hj
      rw [ho] at hoj; cases hoj
      exact flags_false (hall e he hb)
theorem flags_none (k i : Nat) : flags (Array.replicate k false) i = decide (k ≤ i) := by
  unfold flags
  rcases Nat.lt_or_ge i k with h | h
  · simp [h]
  · simp [h]
theorem leftOf_none (k : Nat) : leftOf (Array.replicate k false) ≤ k := by
  unfold leftOf
  have := List.countP_le_length (p := fun b => !b) (l := (Array.replicate k false).toList)
  simpa using this
end Go.Proofs.Ytlknmnldblodbaa

/- A region that draws its order, by what is known of each operation's slot: over XAnyInv. -/
namespace Go.Proofs.Ytlknmnldblodbaa

/-- What operations yielded, by their numbers. -/
def updT (t : Nat → Value) (i : Nat) (v : Value) : Nat → Value := fun j => if j = i then v else t j
@[simp] theorem updT_same (t : Nat → Value) (i : Nat) (v : Value) : updT t i v i = v := by simp [updT]
theorem updT_ne (t : Nat → Value) {i j : Nat} (v : Value) (h : j ≠ i) : updT t i v j = t j := by simp [updT, h]
/-- Of those that stand behind, the value that is known. -/
def Kn (Vs : List (Option Value)) (f : Nat → Bool) (t : Nat → Value) : Prop := ∀ j V, f j = true → Vs[j]? = some (some V) → t j = V
theorem Kn.none (Vs : List (Option Value)) (n : Nat) (h : Vs.length = n) (t : Nat → Value) : Kn Vs (flags (Array.replicate n false)) t := by
  intro j V hf hV
  rw [flags_none] at hf
  have h1 : n ≤ j := by simpa using hf
  rw [List.getElem?_eq_none (by omega)] at hV
  cases hV
theorem Kn.upd {Vs : List (Option Value)} {f : Nat → Bool} {t : Nat → Value} {i : Nat} {v : Value} (h : Kn Vs f t) (hv : ∀ V, Vs[i]? = some (some V) → v = V) : Kn Vs (updF f i) (updT t i v) := by
  intro j V hf hV
  by_cases e : j = i
  · subst e; rw [updT_same]; exact hv V hV
  · rw [updT_ne _ _ e]; rw [updF_ne _ e] at hf; exact h j V hf hV
theorem Kn.at_ {Vs : List (Option Value)} {f : Nat → Bool} {t : Nat → Value} {i : Nat} {v : Value} (h : Kn Vs f t) (hv : Vs[i]? = some (some v)) : Kn Vs (updF f i) (updT t i v) := h.upd (fun V e => by rw [hv] at e; cases e; rfl)
theorem Kn.free {Vs : List (Option Value)} {f : Nat → Bool} {t : Nat → Value} {i : Nat} {v : Value} (h : Kn Vs f t) (hv : Vs[i]? = some .none) : Kn Vs (updF f i) (updT t i v) := h.upd (fun V e => by rw [hv] at e; cases e)

/-- The rule. I f t W: the world, whichever operations stand behind; A t: the frame. -/
theorem wp_region_known {id n : Nat} {P : Program} {ops : Array Oper} {Q : Exit → Act → World → Prop} {a : Act} {w : World} (Vs : List (Option Value)) (A : (Nat → Value) → Act) (I : (Nat → Bool) → (Nat → Value) → World → Prop) (t0 : Nat → Value)
    (hm : P.follows .mixedOrders = true) (hn : ops.size = n) (hl : Vs.length = n) (hord : ordB .any ops = true) (ha : a = A t0) (h0 : I (fun i => decide (n ≤ i)) t0 w.drew)
    (hstep : ∀ i, i < n → ∀ (f : Nat → Bool) (t : Nat → Value) (W : World), f i = false → (∀ j, Region.waitsFor .any ops i j = true → f j = true) → Kn Vs f t → I f t W →
      wpOp P ops Q i (fun a' W' => ∃ v, a' = A (updT t i v) ∧ Kn Vs (updF f i) (updT t i v) ∧ I (updF f i) (updT t i v) W') (A t) W)
    (hdone : ∀ (f : Nat → Bool) (t : Nat → Value) (W : World), (∀ i, i < n → f i = true) → Kn Vs f t → I f t W → Q .normal (A t) W) :
    (Code.region id ops true).wp P Q a w := by
  subst hn
  refine wp_region_any hm ?_
  change wpAny _ _ _ _ _ _ _ w.drew
  refine wpAny_inv (fun f ac W => ∃ t, ac = A t ∧ Kn Vs f t ∧ I f t W) hord ?_ ?_ _ _ _ _ (by simp) (leftOf_none _) ⟨t0, ha, Kn.none Vs _ hl t0, ?_⟩
  · rintro i hi f ac W hfi hwt ⟨t, rfl, hk, hI⟩
    refine wpOp_mono ?_ (hstep i hi f t W hfi hwt hk hI)
    rintro a' W' ⟨v, h1, h2, h3⟩
    exact ⟨_, h1, h2, h3⟩
  · rintro f ac W hall ⟨t, rfl, hk, hI⟩
    exact hdone f t W hall hk hI
  · rw [show flags (Array.replicate ops.size false) = fun i => decide (ops.size ≤ i) from funext (flags_none _)]
    exact h0
end Go.Proofs.Ytlknmnldblodbaa

/- Package token: the closure that tells how much of a word stands right ahead. -/
namespace Go.Proofs.Ytlknmnldblodbaa
open Go.RowKit Kmp

theorem FMem.drewN {wd : List UInt8} {bk : Nat → Nat} {g1 g2 ga : Nat} {w : World} (h : FMem wd bk g1 g2 ga w) (n : Nat) : FMem wd bk g1 g2 ga (w.drewN n) := h.below (below_drewN (Below.refl _ _) n)
theorem FMem.drew {wd : List UInt8} {bk : Nat → Nat} {g1 g2 ga : Nat} {w : World} (h : FMem wd bk g1 g2 ga w) : FMem wd bk g1 g2 ga w.drew := h.drewN 1
def FollowPost (wd : List UInt8) (w : World) (e : Ending) (w' : World) : Prop := ∃ (bk : Nat → Nat) (g1 g2 ga : Nat), e = .returned (.func (.func 70) #[] #[.pointer (some ⟨g1, 0, none⟩), .pointer (some ⟨g2, 0, none⟩)]) ∧ FMem wd bk g1 g2 ga w' ∧ Tab wd bk wd.length ∧ Below w.heap.size w w'

theorem cellB {B : Nat} {w w' : World} (hb : Below B w w') {b o : Nat} {v : Value} (h : w.cell? ⟨b, o, none⟩ = some v) (hlt : b < B) : w'.cell? ⟨b, o, none⟩ = some v := (hb.cell (p := ⟨b, o, none⟩) hlt).trans h
def KmpI (wd : List UInt8) (ga i b : Nat) (c : UInt8) (wr : World) (f : Nat → Bool) (t : Nat → Value) (W : World) : Prop :=
  (f 13 = false → Below wr.heap.size wr W) ∧ (f 11 = true → ∃ r : Nat, t 11 = .int .i64 (r : Int) ∧ Strides wd b c r) ∧
  (f 13 = true → (∀ j, j < 13 → f j = true) ∧ ∃ (r : Nat) (W0 : World), Strides wd b c r ∧ Below wr.heap.size wr W0 ∧ W = W0.setCell ⟨ga, i + 1, none⟩ (.int .i64 (r : Int)))
section
variable {wd : List UInt8} {ga i b : Nat} {c : UInt8} {wr W : World} {f : Nat → Bool} {t : Nat → Value}
theorem KmpI.start (wd : List UInt8) (ga i b : Nat) (c : UInt8) (wr : World) (t : Nat → Value) : KmpI wd ga i b c wr (fun j => decide (14 ≤ j)) t wr.drew :=
  ⟨fun _ => (Below.refl _ wr).drew, fun h => by simp at h, fun h => by simp at h⟩
theorem KmpI.notlast (h : KmpI wd ga i b c wr f t W) {j : Nat} (hj : j < 14) (hf : f j = false) : f 13 = false := by
  cases h13 : f 13
  · rfl
  · rcases Nat.lt_or_ge j 13 with hl | hl
    · have := (h.2.2 h13).1 j hl
      rw [hf] at this
      cases this
    · obtain rfl : j = 13 := by omega
      rw [h13] at hf
      cases hf
theorem KmpI.same (h : KmpI wd ga i b c wr f t W) (j : Nat) (v : Value) (h1 : j ≠ 11) (h2 : j ≠ 13) : KmpI wd ga i b c wr (updF f j) (updT t j v) W := by
  refine ⟨fun e => h.1 (by rwa [updF_ne f (Ne.symm h2)] at e), fun e => ?_, fun e => ?_⟩
  · rw [updF_ne f (Ne.symm h1)] at e
    obtain ⟨r, e1, e2⟩ := h.2.1 e
    exact ⟨r, by simpa [updT, Ne.symm h1] using e1, e2⟩
  · rw [updF_ne f (Ne.symm h2)] at e
    obtain ⟨e1, e2⟩ := h.2.2 e
    exact ⟨fun k hk => by unfold updF; split; rfl; exact e1 k hk, e2⟩
theorem KmpI.call (h : KmpI wd ga i b c wr f t W) (h13 : f 13 = false) {r : Nat} {W' : World} (hr : Strides wd b c r) (hb : Below W.heap.size W W') : KmpI wd ga i b c wr (updF f 11) (updT t 11 (.int .i64 (r : Int))) W' := by
  refine ⟨fun _ => bt (h.1 h13) hb, fun _ => ⟨r, by simp [updT], hr⟩, fun e => ?_⟩
  rw [updF_ne f (by omega), h13] at e
  cases e
theorem KmpI.put (h : KmpI wd ga i b c wr f t W) (h13 : f 13 = false) {r : Nat} (hr : Strides wd b c r) (hall : ∀ j, j < 13 → f j = true) (v : Value) : KmpI wd ga i b c wr (updF f 13) (updT t 13 v) (W.setCell ⟨ga, i + 1, none⟩ (.int .i64 (r : Int))) := by
  refine ⟨fun e => by simp at e, fun e => ?_, fun _ => ⟨fun k hk => by unfold updF; split; rfl; exact hall k hk, r, W, hr, h.1 h13, rfl⟩⟩
  rw [updF_ne f (by omega)] at e
  obtain ⟨r', e1, e2⟩ := h.2.1 e
  exact ⟨r', by simpa [updT] using e1, e2⟩
end
theorem infoInt : (Try.prog.info? 3).map (fun i => (i.zero, i.size, i.bytes)) = some (some (.int .i64 0), 1, 8) := by kernel_rfl
theorem made_row (wd : List UInt8) (bk : Nat → Nat) (h : ∀ j, bk j = 0) : (madeCells (Value.int .i64 0).cells ((wd.length + 1) * 1)).toList = rowI wd bk := by
  unfold madeCells rowI
  rw [Array.toList_map, Array.toList_range, Nat.mul_one]
  refine List.map_congr_left (fun j _ => ?_)
  rw [h j]
  show #[Value.int .i64 0][j % 1]! = _
  rw [Nat.mod_one]
  rfl
theorem mutRow_own {w : World} {base g n cap : Nat} {e : TypeId} {xs : List Value} (h : w.ownsRow base e 1 (.slice (some ⟨g, 0, none⟩) n cap) n xs) (hx : xs.length = n) : MutRow w g xs := fun j hj => by
  refine ⟨?_, h.frozenAt j⟩
  rw [h.cellAt j (by omega)]
  exact List.getElem?_eq_getElem hj
theorem rowI_set (wd : List UInt8) (bk : Nat → Nat) (i r : Nat) : (rowI wd bk).set i (.int .i64 (r : Int)) = rowI wd (fun j => if j = i then r else bk j) := by
  apply List.ext_getElem?
  intro j
  unfold rowI
  rw [List.getElem?_set, List.getElem?_map, List.getElem?_map, List.length_map, List.length_range]
  by_cases hj : j < wd.length + 1
  · rw [List.getElem?_range hj]
    by_cases e : i = j
    · subst e
      simp [hj]
    · simp [e, Ne.symm e]
  · rw [List.getElem?_eq_none (by simp; omega)]
    simp
    omega

set_option maxHeartbeats 4000000 in
set_option maxRecDepth 100000 in
theorem tokFollow (wd : List UInt8) (w : World) (hw1 : 0 < wd.length) (hw2 : wd.length ≤ 1073741826) : Calls Try.prog 46 #[.string (M5.bs wd)] w (FollowPost wd w) := by
  obtain ⟨wo, rfl⟩ : ∃ wo : World, wo = w := ⟨_, rfl⟩
  have hbz : (M5.bs wd).size = wd.length := bs_size wd
  have hE : ∀ (args : Array Value) (w : World), (callFunc 70 args).run Try.prog w = .ok (.enter 70 args) w := enters_of Try.func70 (by kernel_rfl) rfl
  go_enter Try.func46, Try.ntmps46
  obtain ⟨i0, hi, hz0, hz1, hz2⟩ := info_parts infoInt
  have bw0 := Box.new wo 9 [.string (M5.bs wd)]
  have hb0 := Lib.hid ((Below.refl _ wo).alloc (Nat.le_refl _) (.cells #[.string (M5.bs wd)] 9))
  go_wp2_with (at_make; refine wpList_make_full _ rfl _ _ 80 rfl (wo.heap.size + 1) 3 i0 (.int .i64 0) 1 Try.underlying80 hi hz0 hz1 .i64 .i64 _ _ (wd.length + 1) rfl rfl (by omega) (by omega) (by rw [hz2]; omega) (by unfold maxLen; omega) (by simp) ?_; intro w1 hown1 hgrow1)
  have hz : (wo.alloc (.cells #[.string (M5.bs wd)] 9)).heap.size = wo.heap.size + 1 := by simp
  rw [hz] at hown1
  have hr1 := mutRow_own hown1 (by rw [made_row wd (fun _ => 0) (fun _ => rfl), rowI_len])
  rw [made_row wd (fun _ => 0) (fun _ => rfl)] at hr1
  have bw1 := bw0.keep (hgrow1.block _ bw0.lt (by simp))
  have hb1 := hb0.out.grown hgrow1 hb0.out.size (fun k hk => by cases hk)
  have hgs : wo.heap.size + 1 < w1.heap.size := mutRow_lt hr1 (by rw [rowI_len]; omega)
  obtain ⟨g1, hg1⟩ : ∃ g, g = wo.heap.size := ⟨_, rfl⟩
  obtain ⟨ga, hga⟩ : ∃ g, g = wo.heap.size + 1 := ⟨_, rfl⟩
  obtain ⟨g2, hg2⟩ : ∃ g, g = w1.heap.size := ⟨_, rfl⟩
  have hm0 : FMem wd (fun _ => 0) g1 g2 ga (w1.alloc (.cells #[.slice (some ⟨ga, 0, none⟩) (wd.length + 1) (wd.length + 1)] 80)) := by
    rw [hg1, hg2, hga]
    exact ⟨bw1.alloc _, Box.new w1 80 [.slice (some ⟨wo.heap.size + 1, 0, none⟩) (wd.length + 1) (wd.length + 1)], fun j hj => by
      obtain ⟨h1, h2⟩ := hr1 j hj
      have hb := (Below.refl w1.heap.size w1).alloc (Nat.le_refl _) (.cells #[.slice (some ⟨wo.heap.size + 1, 0, none⟩) (wd.length + 1) (wd.length + 1)] 80)
      exact ⟨by rw [hb.cell (p := ⟨wo.heap.size + 1, j, none⟩) hgs]; exact h1, by rw [hb.frozen (p := ⟨wo.heap.size + 1, j, none⟩) hgs]; exact h2⟩⟩
  have hb2 := hb1.alloc hb1.size (.cells #[.slice (some ⟨ga, 0, none⟩) (wd.length + 1) (wd.length + 1)] 80)
  have hne1 : g1 ≠ ga := by omega
  have hne2 : g2 ≠ ga := by omega
  have hga2 : wo.heap.size ≤ ga := by omega
  rw [← hga, ← hg1, ← hg2]
  clear hg1 hga hg2 hgs hr1 bw1 bw0 hb0 hb1 hown1 hgrow1 hz hi hz0 hz1 hz2
  go_loopw [5] (fun u5 wr => ∃ (i : Nat) (bk : Nat → Nat), u5 = .int .i64 (i : Int) ∧ 1 ≤ i ∧ i ≤ wd.length ∧ FMem wd bk g1 g2 ga wr ∧ Hid (Tab wd bk i) ∧ Below wo.heap.size wo wr) (fun u5 _ => wd.length - (intOf u5).toNat)
  case atStart => exact ⟨1, fun _ => 0, rfl, Nat.le_refl _, hw1, hm0, Lib.hid (tab_one wd _ rfl), hb2⟩
  case round =>
    obtain ⟨i, bk, rfl, hi1, hin, hm, ht, hbw⟩ := hrel
    have x0 := hm.word.cell (i := 0) rfl
    have y0 := hm.slice.cell (i := 0) rfl
    by_cases hlt : i < wd.length
    · have hlti : decide ((i : Int) < (wd.length : Int)) = true := decide_eq_true (by omega)
      have hrow := rowI_get wd bk i (by omega)
      obtain ⟨r0, rf0⟩ := hm.row.at hrow
      have hx : ((M5.bs wd).extract i wd.length).size = wd.length - i := by rw [ByteArray.size_extract, hbz]; omega
      have hc0 : ∀ h : 0 < ((M5.bs wd).extract i wd.length).size, ((M5.bs wd).extract i wd.length)[0] = wd[i] := fun h => by
        have h1 := drop_cons ((M5.bs wd).extract i wd.length) 0 h
        rw [List.drop_zero, Lib.extract_data, M5.bs_data, List.take_of_length_le (by rw [List.length_drop]; exact Nat.le_refl _), List.drop_eq_getElem_cons hlt] at h1
        exact (List.cons.inj h1).1.symm
      have hbki : bk i < i := (ht.out i hi1 (Nat.le_refl _)).1
      have hS : Hid (∀ w', FMem wd bk g1 g2 ga w' → Calls Try.prog 70 #[.int .i64 (bk i : Int), .string ((M5.bs wd).extract i wd.length), .pointer (some ⟨g1, 0, none⟩), .pointer (some ⟨g2, 0, none⟩)] w' (StepPost wd (bk i) wd[i] w')) := Lib.hid (fun w' h => by
        have h0 : 0 < ((M5.bs wd).extract i wd.length).size := by omega
        have := tokStep wd bk (bk i) i ((M5.bs wd).extract i wd.length) w' g1 g2 ga h hw1 (by omega) (by omega) (by omega) ht.out h0 (by omega)
        rw [hc0 h0] at this
        exact this)
      generalize hbk : bk i = b at *
      replace hbk := Lib.hid hbk
      clear hc0
      have hwrap : IntKind.i64.wrap ((i : Int) + 1) = (i : Int) + 1 := IntWalk.i64_in _ ⟨by omega, by omega⟩
      have hgl : ga < wr.heap.size := mutRow_lt hm.row (by rw [rowI_len]; omega)
      have c1 : (0 : Int) ≤ (i : Int) := by omega
      have c2 : (i : Int) ≤ (wd.length : Int) := by omega
      have c3 : (i : Int) < (wd.length : Int) + 1 := by omega
      have c4 : (0 : Int) ≤ (i : Int) + 1 := by omega
      have c5 : (i : Int) + 1 < (wd.length : Int) + 1 := by omega
      go_wp2_with fail
      refine wp_region_known (n := 14) ([some (.slice (some ⟨ga, 0, none⟩) (wd.length + 1) (wd.length + 1)), some (Value.int IntKind.i64 (i : Int)), some (.int .i64 ((i : Int) + 1)), some (Value.func (Fn.func 70) #[] #[Value.pointer (some ⟨g1, 0, none⟩), Value.pointer (some ⟨g2, 0, none⟩)]), some (.slice (some ⟨ga, 0, none⟩) (wd.length + 1) (wd.length + 1)), some (Value.int IntKind.i64 (i : Int)), some (.pointer (some ⟨ga, i, none⟩)), some (.int .i64 (b : Int)), some (.string (M5.bs wd)), some (Value.int IntKind.i64 (i : Int)), some (.string ((M5.bs wd).extract i wd.length)), none, some (.pointer (some ⟨ga, i + 1, none⟩)), none] : List (Option Value)) (fun t => ⟨#[Value.string (M5.bs wd), Value.pointer (some ⟨g1, 0, none⟩), Value.nilFunc, Value.pointer (some ⟨g2, 0, none⟩), Value.func (Fn.func 70) #[] #[Value.pointer (some ⟨g1, 0, none⟩), Value.pointer (some ⟨g2, 0, none⟩)], Value.int IntKind.i64 (i : Int), Value.string (M5.bs wd), Value.int IntKind.i64 (wd.length : Int), Value.int IntKind.i64 ((wd.length : Int) + 1), Value.slice (some ⟨ga, 0, none⟩) (wd.length + 1) (wd.length + 1), Value.func (Fn.func 70) #[] #[Value.pointer (some ⟨g1, 0, none⟩), Value.pointer (some ⟨g2, 0, none⟩)], Value.int IntKind.i64 (i : Int), Value.string (M5.bs wd), Value.int IntKind.i64 (wd.length : Int), Value.bool true, u15, u16, t 0, t 1, t 2, t 3, t 4, t 5, t 6, t 7, t 8, t 9, t 10, t 11, t 12, undef], []⟩) (fun f t W => KmpI wd ga i b wd[i] wr f t W) (fun j => match j with | 0 => u17 | 1 => u18 | 2 => u19 | 3 => u20 | 4 => u21 | 5 => u22 | 6 => u23 | 7 => u24 | 8 => u25 | 9 => u26 | 10 => u27 | 11 => u28 | 12 => u29 | _ => undef) (by kernel_rfl) (by rfl) (by rfl) (by kernel_rfl) rfl ?i0 ?step ?fin
      case i0 =>
        exact KmpI.start _ _ _ _ _ _ _
      case step =>
        intro j0 hj0 f t W hfi hwt hk2 hI
        have h13 := hI.notlast hj0 hfi
        have hlow := hI.1 h13
        have s0 := cellB hlow x0 hm.word.lt
        have s1 := cellB hlow y0 hm.slice.lt
        have s2 := cellB hlow r0 hgl
        have s3 := Lib.hid (hm.below hlow)
        clear hlow h13
        obtain rfl | rfl | rfl | rfl | rfl | rfl | rfl | rfl | rfl | rfl | rfl | rfl | rfl | rfl : j0 = 0 ∨ j0 = 1 ∨ j0 = 2 ∨ j0 = 3 ∨ j0 = 4 ∨ j0 = 5 ∨ j0 = 6 ∨ j0 = 7 ∨ j0 = 8 ∨ j0 = 9 ∨ j0 = 10 ∨ j0 = 11 ∨ j0 = 12 ∨ j0 = 13 := by omega
        · -- operation 0
          replace hI := Lib.hid hI
          replace hI := Lib.hid hI
          replace hk2 := Lib.hid hk2
          clear hwt
          refine wpOp_step rfl (fun K hK => ?_)
          go_simp
          exact hK _ _ ⟨_, by simp [updT], hk2.out.at_ rfl, hI.out.same _ _ (by decide) (by decide)⟩
        · -- operation 1
          replace hI := Lib.hid hI
          replace hI := Lib.hid hI
          replace hk2 := Lib.hid hk2
          clear hwt
          refine wpOp_step rfl (fun K hK => ?_)
          go_simp
          exact hK _ _ ⟨_, by simp [updT], hk2.out.at_ rfl, hI.out.same _ _ (by decide) (by decide)⟩
        · -- operation 2
          have e1 : t 1 = Value.int IntKind.i64 (i : Int) := hk2 1 _ (hwt 1 (by kernel_rfl)) rfl
          replace hI := Lib.hid hI
          replace hI := Lib.hid hI
          replace hk2 := Lib.hid hk2
          clear hwt
          refine wpOp_step rfl (fun K hK => ?_)
          go_simp
          exact hK _ _ ⟨_, by simp [updT, e1], hk2.out.at_ rfl, hI.out.same _ _ (by decide) (by decide)⟩
        · -- operation 3
          replace hI := Lib.hid hI
          replace hI := Lib.hid hI
          replace hk2 := Lib.hid hk2
          clear hwt
          refine wpOp_step rfl (fun K hK => ?_)
          go_simp
          exact hK _ _ ⟨_, by simp [updT], hk2.out.at_ rfl, hI.out.same _ _ (by decide) (by decide)⟩
        · -- operation 4
          replace hI := Lib.hid hI
          replace hI := Lib.hid hI
          replace hk2 := Lib.hid hk2
          clear hwt
          refine wpOp_step rfl (fun K hK => ?_)
          go_simp
          exact hK _ _ ⟨_, by simp [updT], hk2.out.at_ rfl, hI.out.same _ _ (by decide) (by decide)⟩
        · -- operation 5
          replace hI := Lib.hid hI
          replace hI := Lib.hid hI
          replace hk2 := Lib.hid hk2
          clear hwt
          refine wpOp_step rfl (fun K hK => ?_)
          go_simp
          exact hK _ _ ⟨_, by simp [updT], hk2.out.at_ rfl, hI.out.same _ _ (by decide) (by decide)⟩
        · -- operation 6
          have e4 : t 4 = .slice (some ⟨ga, 0, none⟩) (wd.length + 1) (wd.length + 1) := hk2 4 _ (hwt 4 (by kernel_rfl)) rfl
          have e5 : t 5 = Value.int IntKind.i64 (i : Int) := hk2 5 _ (hwt 5 (by kernel_rfl)) rfl
          replace hI := Lib.hid hI
          replace hI := Lib.hid hI
          replace hk2 := Lib.hid hk2
          clear hwt
          refine wpOp_step rfl (fun K hK => ?_)
          go_simp
          exact hK _ _ ⟨_, by simp [updT, e4, e5], hk2.out.at_ rfl, hI.out.same _ _ (by decide) (by decide)⟩
        · -- operation 7
          have e6 : t 6 = .pointer (some ⟨ga, i, none⟩) := hk2 6 _ (hwt 6 (by kernel_rfl)) rfl
          replace hI := Lib.hid hI
          replace hI := Lib.hid hI
          replace hk2 := Lib.hid hk2
          clear hwt
          refine wpOp_step rfl (fun K hK => ?_)
          go_simp
          exact hK _ _ ⟨_, by simp [updT, e6], hk2.out.at_ rfl, hI.out.same _ _ (by decide) (by decide)⟩
        · -- operation 8
          replace hI := Lib.hid hI
          replace hI := Lib.hid hI
          replace hk2 := Lib.hid hk2
          clear hwt
          refine wpOp_step rfl (fun K hK => ?_)
          go_simp
          exact hK _ _ ⟨_, by simp [updT], hk2.out.at_ rfl, hI.out.same _ _ (by decide) (by decide)⟩
        · -- operation 9
          replace hI := Lib.hid hI
          replace hI := Lib.hid hI
          replace hk2 := Lib.hid hk2
          clear hwt
          refine wpOp_step rfl (fun K hK => ?_)
          go_simp
          exact hK _ _ ⟨_, by simp [updT], hk2.out.at_ rfl, hI.out.same _ _ (by decide) (by decide)⟩
        · -- operation 10
          have e8 : t 8 = .string (M5.bs wd) := hk2 8 _ (hwt 8 (by kernel_rfl)) rfl
          have e9 : t 9 = Value.int IntKind.i64 (i : Int) := hk2 9 _ (hwt 9 (by kernel_rfl)) rfl
          replace hI := Lib.hid hI
          replace hI := Lib.hid hI
          replace hk2 := Lib.hid hk2
          clear hwt
          refine wpOp_step rfl (fun K hK => ?_)
          go_simp
          exact hK _ _ ⟨_, by simp [updT, e8, e9], hk2.out.at_ rfl, hI.out.same _ _ (by decide) (by decide)⟩
        · -- operation 11
          have e3 : t 3 = Value.func (Fn.func 70) #[] #[Value.pointer (some ⟨g1, 0, none⟩), Value.pointer (some ⟨g2, 0, none⟩)] := hk2 3 _ (hwt 3 (by kernel_rfl)) rfl
          have e7 : t 7 = .int .i64 (b : Int) := hk2 7 _ (hwt 7 (by kernel_rfl)) rfl
          have e10 : t 10 = .string ((M5.bs wd).extract i wd.length) := hk2 10 _ (hwt 10 (by kernel_rfl)) rfl
          have hC := Lib.hid (hS.out W s3.out)
          have h13 := hI.notlast hj0 hfi
          replace hk2 := Lib.hid hk2
          replace hI := Lib.hid hI
          clear hwt
          refine wpOp_step rfl (fun K hK => ?_)
          go_simp
          refine hC.out.mono ?_
          rintro e w5 ⟨r, hr, rfl, hb5⟩
          exact hK _ _ ⟨_, by simp [updT, e3, e7, e10], hk2.out.free rfl, hI.out.call h13 hr hb5⟩
        · -- operation 12
          have e0 : t 0 = .slice (some ⟨ga, 0, none⟩) (wd.length + 1) (wd.length + 1) := hk2 0 _ (hwt 0 (by kernel_rfl)) rfl
          have e2 : t 2 = .int .i64 ((i : Int) + 1) := hk2 2 _ (hwt 2 (by kernel_rfl)) rfl
          replace hI := Lib.hid hI
          replace hI := Lib.hid hI
          replace hk2 := Lib.hid hk2
          clear hwt
          refine wpOp_step rfl (fun K hK => ?_)
          go_simp
          exact hK _ _ ⟨_, by simp [updT, e0, e2], hk2.out.at_ rfl, hI.out.same _ _ (by decide) (by decide)⟩
        · -- operation 13
          have e12 : t 12 = .pointer (some ⟨ga, i + 1, none⟩) := hk2 12 _ (hwt 12 (by kernel_rfl)) rfl
          obtain ⟨r, e11, hr⟩ := hI.2.1 (hwt 11 (by kernel_rfl))
          obtain ⟨q0, qf0⟩ := s3.out.row.at (rowI_get wd bk (i + 1) (by omega))
          have hput := hI.put hfi hr (fun j hj => by
            rcases (by omega : j = 0 ∨ j = 1 ∨ j = 2 ∨ j = 3 ∨ j = 4 ∨ j = 5 ∨ j = 6 ∨ j = 7 ∨ j = 8 ∨ j = 9 ∨ j = 10 ∨ j = 11 ∨ j = 12) with rfl | rfl | rfl | rfl | rfl | rfl | rfl | rfl | rfl | rfl | rfl | rfl | rfl <;> exact hwt _ (by kernel_rfl)) undef
          replace hput := Lib.hid hput
          replace hk2 := Lib.hid hk2
          replace hI := Lib.hid hI
          clear hwt
          refine wpOp_step rfl (fun K hK => ?_)
          go_simp
          exact hK _ _ ⟨undef, by simp [updT, e11, e12], hk2.out.free rfl, hput.out⟩
      case fin =>
        intro f t W hall hk2 hI
        obtain ⟨_, r, W0, hr, hb0, rfl⟩ := hI.2.2 (hall 13 (by omega))
        clear hk2 hall hI
        have hm2 := hm.below hb0
        have hrow2 := hm2.row.set (k := i + 1) (by rw [rowI_len]; omega) (.int .i64 (r : Int))
        rw [rowI_set] at hrow2
        have hbF : Below wo.heap.size wo (W0.setCell ⟨ga, i + 1, none⟩ (.int .i64 (r : Int))) := (bt hbw hb0).setCell (p := ⟨ga, i + 1, none⟩) hga2 _
        have hmF : FMem wd (fun j => if j = i + 1 then r else bk j) g1 g2 ga (W0.setCell ⟨ga, i + 1, none⟩ (.int .i64 (r : Int))) := ⟨hm2.word.far hne1 _, hm2.slice.far hne2 _, hrow2⟩
        have htF := Lib.hid (tab_next hi1 hlt ht.out r (by rw [hbk.out]; exact hr))
        replace hmF := Lib.hid hmF
        go_wp2_with fail
        refine ⟨⟨_, _, _, _, _, _, _, _, _, _, _, _, _, _, _, _, _, _, _, _, ?rel, rfl⟩, ?measure⟩
        case rel => exact ⟨i + 1, fun j => if j = i + 1 then r else bk j, by go_num, by omega, by omega, hmF.out, htF, hbF⟩
        case measure => exact rf_meas hlt
    · obtain rfl : i = wd.length := by omega
      go_wp2_with fail
      go_ret
      exact ⟨bk, g1, g2, ga, rfl, hm, ht.out, hbw⟩
end Go.Proofs.Ytlknmnldblodbaa

/- Package token: where a raw element ends; its content. -/
namespace Go.Proofs.Ytlknmnldblodbaa
open Go.RowKit Kmp

theorem flat_edge : Flat edgeB := flat_of (by decide +kernel)
theorem flat_ask (q : UInt8 → Bool) (hq : Flat q) (c : UInt8) : q c = askR q c.toNat := by
  by_cases h : c.toNat < 128
  · rw [ask_low q c h]
  · unfold askR
    rw [if_neg h, hq c (by omega)]

set_option maxHeartbeats 4000000 in
set_option maxRecDepth 100000 in
theorem tokEnds (s nm : ByteArray) (w : World) (hs : s.size ≤ 1073741824) (hn : nm.size ≤ 1073741824) :
    Calls Try.prog 20 #[.string s, .string nm] w (EndsPost (M5.endsL ([60, 47] ++ nm.data.toList) s.data.toList) w) := by
  obtain ⟨wd, hwd⟩ : ∃ wd : List UInt8, wd = [60, 47] ++ nm.data.toList := ⟨_, rfl⟩
  have hwl : wd.length = 2 + nm.size := by rw [hwd, List.length_append]; show 2 + nm.size = _; rfl
  have hW : (⟨#[60, 47]⟩ : ByteArray) ++ nm = M5.bs wd := by
    apply ByteArray.ext
    apply Array.ext'
    rw [M5.bs_data, hwd, ByteArray.data_append, Array.toList_append]
  rw [← hwd]
  have hsl : s.data.toList.length = s.size := rfl
  obtain ⟨R, hR⟩ : ∃ R, Hid (R = M5.endsL wd s.data.toList) := ⟨_, rfl⟩
  rw [← hR.out]
  have hF := Lib.hid (fun w => tokFollow wd w (by omega) (by omega))
  have hadd : ¬ 9223372036854775807 < 2 + nm.size := by omega
  have hE : ∀ (args : Array Value) (w : World), (callFunc 70 args).run Try.prog w = .ok (.enter 70 args) w := enters_of Try.func70 (by kernel_rfl) rfl
  have hbz : (M5.bs wd).size = wd.length := bs_size wd
  have hwb1 : 0 < wd.length := by omega
  have hwb2 : wd.length ≤ 1073741826 := by omega
  replace hwd := Lib.hid hwd
  obtain ⟨wo, rfl⟩ : ∃ wo : World, wo = w := ⟨_, rfl⟩
  go_enter Try.func20, Try.ntmps20
  go_wp2_with fail
  replace hwl := Lib.hid hwl
  refine (hF.out _).mono ?_
  rintro e1 w1 ⟨bk, g1, g2, ga, rfl, hm, ht, hb1⟩
  replace ht := Lib.hid ht
  go_wp2_with fail
  go_loopw [7, 15] (fun u7 u15 wr => ∃ (i h : Nat), u7 = .int .i64 (h : Int) ∧ u15 = .int .i64 (i : Int) ∧ i ≤ s.size ∧ FMem wd bk g1 g2 ga wr ∧ Hid (IsL wd (M1.fold (s.data.toList.take i)) h) ∧ Hid (∀ k, k + wd.length < i → ¬ Hit wd s.data.toList k) ∧ Below wo.heap.size wo wr) (fun _ u15 _ => s.size - (intOf u15).toNat)
  case atStart => exact ⟨0, 0, rfl, rfl, Nat.zero_le _, hm, Lib.hid (isL_nil wd), Lib.hid (fun k hk => by omega), hb1⟩
  case round =>
    obtain ⟨i, h, rfl, rfl, hi, hm, hL, hno, hbw⟩ := hrel
    by_cases hlt : i < s.size
    · have hh : h ≤ wd.length := hL.out.1
      have hx : (s.extract i s.size).size = s.size - i := by rw [ByteArray.size_extract]; omega
      have hc0 : ∀ h : 0 < (s.extract i s.size).size, (s.extract i s.size)[0] = s[i] := fun h => by
        have h1 := drop_cons (s.extract i s.size) 0 h
        rw [List.drop_zero, Lib.extract_data, List.take_of_length_le (by rw [List.length_drop]; exact Nat.le_refl _), drop_cons s i hlt] at h1
        exact (List.cons.inj h1).1.symm
      have hS : Hid (∀ w', FMem wd bk g1 g2 ga w' → Calls Try.prog 70 #[.int .i64 (h : Int), .string (s.extract i s.size), .pointer (some ⟨g1, 0, none⟩), .pointer (some ⟨g2, 0, none⟩)] w' (StepPost wd h s[i] w')) := Lib.hid (fun w' hm' => by
        have h0 : 0 < (s.extract i s.size).size := by omega
        have := tokStep wd bk h wd.length (s.extract i s.size) w' g1 g2 ga hm' (by omega) (by omega) hh hh ht.out h0 (by omega)
        rw [hc0 h0] at this
        exact this)
      have hLe : Hid (∀ w, Calls Try.prog 47 #[.int .i32 (wrap32 (s[i].toNat : Int))] w (BoolPost (edgeB s[i]) w)) := Lib.hid (fun w => by
        rw [wrap32_byte]
        have := tokLeaves s[i].toNat w
        rwa [← flat_ask edgeB flat_edge] at this)
      have hgo : (h = wd.length ∧ edgeB s[i] = true → False) → ∀ r, Strides wd h s[i] r → Hid (IsL wd (M1.fold (s.data.toList.take (i + 1))) r) ∧ Hid (∀ k, k + wd.length < i + 1 → ¬ Hit wd s.data.toList k) := fun hne r hr => by
        refine ⟨Lib.hid ?_, Lib.hid (fun k hk hh' => ?_)⟩
        · have e := fold_snoc s.data.toList i hlt
          have := hr.2.2 _ (low_fold _) hL.out
          rw [e]
          exact this
        · rcases Nat.lt_or_ge (k + wd.length) i with hk2 | hk2
          · exact hno.out k hk2 hh'
          · have hki : k = i - wd.length := by omega
            rw [hki] at hh'
            exact hne ((hit_iff hlt hL.out (by omega)).1 hh')
      by_cases hhn : h = wd.length
      · have ekn : ((h : Int) == (wd.length : Int)) = true := by rw [beq_iff_eq]; omega
        cases hed : edgeB s[i]
        · rw [hed] at hLe hgo
          have hgo2 := Lib.hid (hgo (fun e => by cases e.2))
          replace hhn := Lib.hid hhn
          clear hgo hc0
          go_wp2_with fail
          refine (hLe.out _).mono ?_
          rintro e1 w2 ⟨rfl, rfl⟩
          go_wp2_with fail
          refine (hS.out _ hm).mono ?_
          rintro e1 w2 ⟨r, hr, rfl, hb2⟩
          obtain ⟨hL2, hno2⟩ := hgo2.out r hr
          have hm2 := Lib.hid (hm.below hb2)
          have hbw2 := Lib.hid (bt hbw hb2)
          clear hm hbw hb2
          go_wp2_with fail
          go_roundw
          case rel => exact ⟨i + 1, r, rfl, by go_num, by omega, hm2.out, hL2, hno2, hbw2.out⟩
          case measure => exact rf_meas hlt
        · have hni : wd.length ≤ i := by
            have := hL.out.2.1.length_le
            rw [hhn, List.take_length] at this
            unfold M1.fold at this
            rw [List.length_map, List.length_take] at this
            omega
          have hres : R = some (i - wd.length) := by
            rw [hR.out]
            exact ends_some wd _ _ ((hit_iff hlt hL.out hni).2 ⟨hhn, hed⟩) (fun k hk => hno.out k (by omega))
          rw [hed] at hLe
          replace hres := Lib.hid hres
          clear hgo hc0
          go_wp2_with fail
          refine (hLe.out _).mono ?_
          rintro e1 w2 ⟨rfl, rfl⟩
          go_wp2_with fail
          go_ret
          exact ⟨by rw [hres.out]; show _ = Ending.returned (.int .i64 ((i - wd.length : Nat) : Int)); rw [Int.ofNat_sub hni]; rfl, hbw⟩
      · have ekn : ((h : Int) == (wd.length : Int)) = false := by rw [beq_eq_false_iff_ne]; omega
        have hgo2 := Lib.hid (hgo (fun e => hhn e.1))
        replace hhn := Lib.hid hhn
        clear hgo hc0
        go_wp2_with fail
        refine (hS.out _ hm).mono ?_
        rintro e1 w2 ⟨r, hr, rfl, hb2⟩
        obtain ⟨hL2, hno2⟩ := hgo2.out r hr
        have hm2 := Lib.hid (hm.below hb2)
        have hbw2 := Lib.hid (bt hbw hb2)
        clear hm hbw hb2
        go_wp2_with fail
        go_roundw
        case rel => exact ⟨i + 1, r, rfl, by go_num, by omega, hm2.out, hL2, hno2, hbw2.out⟩
        case measure => exact rf_meas hlt
    · have hres : R = none := by
        rw [hR.out]
        exact ends_none wd _ (fun k hk => hno.out k (by obtain ⟨_, h2, _⟩ := hk; omega) hk)
      replace hres := Lib.hid hres
      go_wp2_with fail
      go_ret
      exact ⟨by rw [hres.out]; rfl, hbw⟩

theorem ends_le (wd : List UInt8) : ∀ (l : List UInt8) (k : Nat), M5.endsL wd l = some k → k ≤ l.length := by
  intro l
  induction l with
  | nil => intro k h; cases h
  | cons c r ih =>
    intro k h
    by_cases h0 : Hit wd (c :: r) 0
    · rw [(ends_cons wd c r).1 h0] at h
      cases h
      exact Nat.zero_le _
    · rw [(ends_cons wd c r).2 h0] at h
      cases hr : M5.endsL wd r with
      | none => rw [hr] at h; cases h
      | some j =>
        rw [hr] at h
        have := ih j hr
        have h' : j + 1 = k := by simpa using h
        simp only [List.length_cons]
        omega
set_option maxHeartbeats 4000000 in
set_option maxRecDepth 100000 in
theorem tokContent (s nm : ByteArray) (w : World) (hs : s.size ≤ 1073741824) (hn : nm.size ≤ 1073741824) :
    Calls Try.prog 32 #[.string s, .string nm] w (TokPost (M5.contC (M5.endN nm.data.toList s.data.toList) s.data.toList) (M5.endN nm.data.toList s.data.toList) w) := by
  have hE := Lib.hid (fun w => tokEnds s nm w hs hn)
  obtain ⟨N, hN⟩ : ∃ N, Hid (N = M5.endN nm.data.toList s.data.toList) := ⟨_, rfl⟩
  rw [← hN.out]
  have hNv : Hid (N = match M5.endsL ([60, 47] ++ nm.data.toList) s.data.toList with | some k => k | none => s.size) := by
    show _ = _
    rw [hN.out]
    unfold M5.endN
    try (cases M5.endsL ([60, 47] ++ nm.data.toList) s.data.toList <;> rfl)
  have hNs : N ≤ s.size := by
    rw [hNv.out]
    cases he : M5.endsL ([60, 47] ++ nm.data.toList) s.data.toList with
    | none => exact Nat.le_refl _
    | some k => exact ends_le _ _ k he
  have hx : Hid (M5.bs (s.data.toList.take N) = s.extract 0 N) := by show _ = _; rw [bs_cut, List.drop_zero, Nat.sub_zero]
  have hC := Lib.hid (fun w => sClone (s.extract 0 N) w (by rw [ByteArray.size_extract]; omega))
  obtain ⟨wo, rfl⟩ : ∃ wo : World, wo = w := ⟨_, rfl⟩
  have bx0 := Box.new wo 31 [.int .i64 0, .string ⟨#[]⟩, .slice none 0 0, .string ⟨#[]⟩]
  have hb0 := Lib.hid ((Below.refl _ wo).alloc (Nat.le_refl _) (.cells #[.int .i64 0, .string ⟨#[]⟩, .slice none 0 0, .string ⟨#[]⟩] 31))
  cases he : M5.endsL ([60, 47] ++ nm.data.toList) s.data.toList with
  | none =>
    rw [he] at hNv
    have hNe : N = s.size := hNv.out
    have hEv : endV none = -1 := rfl
    by_cases hz : N = 0
    · have hT : Hid (M5.contC N s.data.toList = M5.zero) := by show _ = _; rw [M5.contC, if_pos hz]
      rw [hT.out]
      go_enter Try.func32, Try.ntmps32
      go_wp2_with fail
      refine (hE.out _).mono ?_
      rintro e1 w1 ⟨rfl, hb1⟩
      rw [he, hEv]
      have bx1 := bx0.below hb1 bx0.lt
      have hbW1 := Lib.hid (bt hb0.out hb1)
      have z0 := bx1.cell (i := 0) rfl
      have z1 := bx1.cell (i := 1) rfl
      have z2 := bx1.cell (i := 2) rfl
      have z3 := bx1.cell (i := 3) rfl
      have fz := bx1.free
      have bf := Lib.hid (bx1.four (.int .i64 0) (.string ⟨#[]⟩) (.slice none 0 0) (.string ⟨#[]⟩))
      clear hb1
      go_wp2_with fail
      have q0 := bf.out.cell (i := 0) rfl
      have q1 := bf.out.cell (i := 1) rfl
      have q2 := bf.out.cell (i := 2) rfl
      have q3 := bf.out.cell (i := 3) rfl
      exact bodyPost_ret (v := .tuple #[.agg #[.int .i64 0, .string ⟨#[]⟩, .slice none 0 0, .string ⟨#[]⟩], .int .i64 0]) (by simp [results, Try.results32, go_sem, q0, q1, q2, q3]) rfl (tokPost_nil (by omega) (four_below hbW1.out _ _ _ _ (Nat.le_refl _)))
    · have hxs : s.extract 0 N = s := by rw [hNe, ByteArray.extract_zero_size]
      rw [hxs] at hC
      have hT : Hid (M5.contC N s.data.toList = ⟨3, ⟨#[]⟩, [], s⟩) := by show _ = _; rw [M5.contC, if_neg hz, hx.out, hxs]
      rw [hT.out]
      go_enter Try.func32, Try.ntmps32
      go_wp2_with fail
      refine (hE.out _).mono ?_
      rintro e1 w1 ⟨rfl, hb1⟩
      rw [he, hEv]
      have bx1 := bx0.below hb1 bx0.lt
      have hbW1 := Lib.hid (bt hb0.out hb1)
      go_wp2_with fail
      refine (hC.out _).mono ?_
      rintro e1 w2 ⟨rfl, hb2⟩
      have bx2 := bx1.below hb2 bx1.lt
      have hbW2 := Lib.hid (bt hbW1.out hb2)
      have z0 := bx2.cell (i := 0) rfl
      have z1 := bx2.cell (i := 1) rfl
      have z2 := bx2.cell (i := 2) rfl
      have z3 := bx2.cell (i := 3) rfl
      have fz := bx2.free
      have bf := Lib.hid (bx2.four (.int .i64 3) (.string ⟨#[]⟩) (.slice none 0 0) (.string (s)))
      clear hb1 hb2
      go_wp2_with fail
      have q0 := bf.out.cell (i := 0) rfl
      have q1 := bf.out.cell (i := 1) rfl
      have q2 := bf.out.cell (i := 2) rfl
      have q3 := bf.out.cell (i := 3) rfl
      exact bodyPost_ret (v := .tuple #[.agg #[.int .i64 3, .string ⟨#[]⟩, .slice none 0 0, .string (s)], .int .i64 (s.size : Int)]) (by simp [results, Try.results32, go_sem, q0, q1, q2, q3]) rfl (tokPost_nil (by omega) (four_below hbW2.out _ _ _ _ (Nat.le_refl _)))
  | some k =>
    rw [he] at hNv
    obtain rfl : N = k := hNv.out
    have hEv : endV (some N) = (N : Int) := rfl
    by_cases hz : N = 0
    · have hT : Hid (M5.contC N s.data.toList = M5.zero) := by show _ = _; rw [M5.contC, if_pos hz]
      rw [hT.out]
      go_enter Try.func32, Try.ntmps32
      go_wp2_with fail
      refine (hE.out _).mono ?_
      rintro e1 w1 ⟨rfl, hb1⟩
      rw [he, hEv]
      have bx1 := bx0.below hb1 bx0.lt
      have hbW1 := Lib.hid (bt hb0.out hb1)
      have z0 := bx1.cell (i := 0) rfl
      have z1 := bx1.cell (i := 1) rfl
      have z2 := bx1.cell (i := 2) rfl
      have z3 := bx1.cell (i := 3) rfl
      have fz := bx1.free
      have bf := Lib.hid (bx1.four (.int .i64 0) (.string ⟨#[]⟩) (.slice none 0 0) (.string ⟨#[]⟩))
      clear hb1
      go_wp2_with fail
      have q0 := bf.out.cell (i := 0) rfl
      have q1 := bf.out.cell (i := 1) rfl
      have q2 := bf.out.cell (i := 2) rfl
      have q3 := bf.out.cell (i := 3) rfl
      exact bodyPost_ret (v := .tuple #[.agg #[.int .i64 0, .string ⟨#[]⟩, .slice none 0 0, .string ⟨#[]⟩], .int .i64 0]) (by simp [results, Try.results32, go_sem, q0, q1, q2, q3]) rfl (tokPost_nil (by omega) (four_below hbW1.out _ _ _ _ (Nat.le_refl _)))
    · have hT : Hid (M5.contC N s.data.toList = ⟨3, ⟨#[]⟩, [], s.extract 0 N⟩) := by show _ = _; rw [M5.contC, if_neg hz, hx.out]
      rw [hT.out]
      go_enter Try.func32, Try.ntmps32
      go_wp2_with fail
      refine (hE.out _).mono ?_
      rintro e1 w1 ⟨rfl, hb1⟩
      rw [he, hEv]
      have bx1 := bx0.below hb1 bx0.lt
      have hbW1 := Lib.hid (bt hb0.out hb1)
      go_wp2_with fail
      refine (hC.out _).mono ?_
      rintro e1 w2 ⟨rfl, hb2⟩
      have bx2 := bx1.below hb2 bx1.lt
      have hbW2 := Lib.hid (bt hbW1.out hb2)
      have z0 := bx2.cell (i := 0) rfl
      have z1 := bx2.cell (i := 1) rfl
      have z2 := bx2.cell (i := 2) rfl
      have z3 := bx2.cell (i := 3) rfl
      have fz := bx2.free
      have bf := Lib.hid (bx2.four (.int .i64 3) (.string ⟨#[]⟩) (.slice none 0 0) (.string (s.extract 0 N)))
      clear hb1 hb2
      go_wp2_with fail
      have q0 := bf.out.cell (i := 0) rfl
      have q1 := bf.out.cell (i := 1) rfl
      have q2 := bf.out.cell (i := 2) rfl
      have q3 := bf.out.cell (i := 3) rfl
      exact bodyPost_ret (v := .tuple #[.agg #[.int .i64 3, .string ⟨#[]⟩, .slice none 0 0, .string (s.extract 0 N)], .int .i64 (N : Int)]) (by simp [results, Try.results32, go_sem, q0, q1, q2, q3]) rfl (tokPost_nil (by omega) (four_below hbW2.out _ _ _ _ (Nat.le_refl _)))
end Go.Proofs.Ytlknmnldblodbaa

/- Tokens by definitions: a round of the program's loop. -/
namespace Go.Proofs.Ytlknmnldblodbaa.M5

def keepT (t : Tok) : List Tok := if t.kind ≠ 0 then [t] else []
theorem endN_le (nm l : List UInt8) : endN nm l ≤ l.length := by
  unfold endN
  cases h : endsL ([60, 47] ++ nm) l with
  | none => exact Nat.le_refl _
  | some k =>
    show k ≤ l.length
    generalize [60, 47] ++ nm = wd at h
    induction l generalizing k with
    | nil => cases h
    | cons c r ih =>
      by_cases h0 : Kmp.Hit wd (c :: r) 0
      · rw [(Kmp.ends_cons wd c r).1 h0] at h
        cases h
        exact Nat.zero_le _
      · rw [(Kmp.ends_cons wd c r).2 h0] at h
        cases hr : endsL wd r with
        | none => rw [hr] at h; cases h
        | some j =>
          rw [hr] at h
          have := ih j hr
          have h' : j + 1 = k := by simpa using h
          simp only [List.length_cons]
          omega
theorem rawT_raw (t : Tok) (l : List UInt8) (h : t.kind = 1 ∧ M3.rawB t.name.data.toList = true) :
    rawT t l = (keepT (contC (endN t.name.data.toList l) l), l.drop (endN t.name.data.toList l)) := by
  rw [rawT, if_pos h]
  congr 1
  have hle := endN_le t.name.data.toList l
  generalize endN t.name.data.toList l = n at *
  unfold contC keepT asIs
  by_cases hz : n = 0
  · subst hz
    rw [if_pos rfl]
    rfl
  · rw [if_neg hz, if_neg, if_pos (show (3 : Int) ≠ 0 by decide)]
    rw [Bool.not_eq_true, List.isEmpty_eq_false_iff]
    intro e
    have := congrArg List.length e
    rw [List.length_take, List.length_nil] at this
    omega
theorem rawT_not (t : Tok) (l : List UInt8) (h : ¬ (t.kind = 1 ∧ M3.rawB t.name.data.toList = true)) : rawT t l = ([], l) := by rw [rawT, if_neg h]
theorem round_raw (l : List UInt8) (h : startsB l = true) (hr : (tagR l).1.kind = 1 ∧ M3.rawB (tagR l).1.name.data.toList = true) :
    toksR [] l = keepT (tagR l).1 ++ (keepT (contC (endN (tagR l).1.name.data.toList (tagR l).2) (tagR l).2) ++ toksR [] ((tagR l).2.drop (endN (tagR l).1.name.data.toList (tagR l).2))) := by
  rw [toks_tag l h, rawT_raw _ _ hr]
  rfl
theorem round_tag (l : List UInt8) (h : startsB l = true) (hr : ¬ ((tagR l).1.kind = 1 ∧ M3.rawB (tagR l).1.name.data.toList = true)) :
    toksR [] l = keepT (tagR l).1 ++ toksR [] (tagR l).2 := by
  rw [toks_tag l h, rawT_not _ _ hr, List.nil_append]
  rfl
end Go.Proofs.Ytlknmnldblodbaa.M5

/- Tokens in memory: a row of them, each with its own row of attributes; one more at its end. -/
namespace Go.Proofs.Ytlknmnldblodbaa
open Go.RowKit

def Tok.cells (t : Tok) (va : Value) : List Value := [.int .i64 t.kind, .string t.name, va, .string t.text]
theorem Tok.cells_len (t : Tok) (va : Value) : (t.cells va).length = 4 := rfl
def RepT (S : Nat → Prop) (w : World) : List Value → List Tok → Prop
  | xs, [] => xs = []
  | xs, t :: r => ∃ va ys, xs = t.cells va ++ ys ∧ Row S w 2 va t.attrs.length (cellsA t.attrs) ∧ RepT S w ys r
theorem RepT.keep {S : Nat → Prop} {w w' : World} (hk : ∀ b, S b → w'.heap[b]? = w.heap[b]?) : ∀ (l : List Tok) (xs : List Value), RepT S w xs l → RepT S w' xs l
  | [], _, h => h
  | _ :: r, _, ⟨va, ys, h1, h2, h3⟩ => ⟨va, ys, h1, h2.keep hk, RepT.keep hk r ys h3⟩
theorem RepT.mono {S S' : Nat → Prop} {w : World} (hs : ∀ b, S b → S' b) : ∀ (l : List Tok) (xs : List Value), RepT S w xs l → RepT S' w xs l
  | [], _, h => h
  | _ :: r, _, ⟨va, ys, h1, h2, h3⟩ => ⟨va, ys, h1, h2.mono hs, RepT.mono hs r ys h3⟩
theorem RepT.len {S : Nat → Prop} {w : World} : ∀ (l : List Tok) (xs : List Value), RepT S w xs l → xs.length = l.length * 4
  | [], _, h => by have h : _ = [] := h; subst h; rfl
  | t :: r, _, ⟨va, ys, h1, _, h3⟩ => by
    have := RepT.len r ys h3
    subst h1
    rw [List.length_append, Tok.cells_len, List.length_cons]
    omega
theorem RepT.snoc {S : Nat → Prop} {w : World} {t : Tok} {va : Value} (h : Row S w 2 va t.attrs.length (cellsA t.attrs)) : ∀ (l : List Tok) (xs : List Value), RepT S w xs l → RepT S w (xs ++ t.cells va) (l ++ [t])
  | [], xs, e => by
    have e : xs = [] := e
    subst e
    exact ⟨va, [], by simp, h, rfl⟩
  | _ :: r, _, ⟨vb, ys, h1, h2, h3⟩ => ⟨vb, ys ++ t.cells va, by rw [h1, List.append_assoc], h2, RepT.snoc h r ys h3⟩
/-- A token of a row. -/
theorem RepT.at_ {S : Nat → Prop} {w : World} : ∀ (l : List Tok) (xs : List Value) (i : Nat) (hi : i < l.length), RepT S w xs l → ∃ va, Row S w 2 va l[i].attrs.length (cellsA l[i].attrs) ∧
    xs[i * 4]? = some (.int .i64 l[i].kind) ∧ xs[i * 4 + 1]? = some (.string l[i].name) ∧ xs[i * 4 + 2]? = some va ∧ xs[i * 4 + 3]? = some (.string l[i].text)
  | [], _, i, hi, _ => by simp at hi
  | t :: r, _, 0, _, ⟨va, ys, h1, h2, _⟩ => by subst h1; exact ⟨va, h2, rfl, rfl, rfl, rfl⟩
  | t :: r, _, i + 1, hi, ⟨va, ys, h1, _, h3⟩ => by
    obtain ⟨vb, q0, q1, q2, q3, q4⟩ := RepT.at_ r ys i (by simpa using hi) h3
    subst h1
    refine ⟨vb, q0, ?_, ?_, ?_, ?_⟩
    · rw [List.getElem?_append_right (by rw [Tok.cells_len]; omega), Tok.cells_len, show (i + 1) * 4 - 4 = i * 4 by omega]; exact q1
    · rw [List.getElem?_append_right (by rw [Tok.cells_len]; omega), Tok.cells_len, show (i + 1) * 4 + 1 - 4 = i * 4 + 1 by omega]; exact q2
    · rw [List.getElem?_append_right (by rw [Tok.cells_len]; omega), Tok.cells_len, show (i + 1) * 4 + 2 - 4 = i * 4 + 2 by omega]; exact q3
    · rw [List.getElem?_append_right (by rw [Tok.cells_len]; omega), Tok.cells_len, show (i + 1) * 4 + 3 - 4 = i * 4 + 3 by omega]; exact q4
/-- A list of tokens that the call has made, from block B on. -/
def Toks (w : World) (B : Nat) (v : Value) (l : List Tok) : Prop := ∃ xs, w.ownsRow B 31 4 v l.length xs ∧ RepT (fun b => B ≤ b ∧ b < w.heap.size ∧ v.ownBlock ≠ some b) w xs l
theorem Toks.nil (w : World) (B : Nat) : Toks w B (.slice none 0 0) [] := ⟨[], World.ownsRow_nil _ _ _ _, rfl⟩
theorem Toks.slice {w : World} {B : Nat} {v : Value} {l : List Tok} (h : Toks w B v l) : ∃ a c, v = .slice a l.length c := by
  obtain ⟨xs, h1, _⟩ := h
  exact own_slice5 h1
theorem Toks.lt {w : World} {B : Nat} {v : Value} {l : List Tok} (h : Toks w B v l) {b : Nat} (hb : v.ownBlock = some b) : B ≤ b ∧ b < w.heap.size := by
  obtain ⟨xs, h1, _⟩ := h
  exact h1.lt b hb
/-- It stays where what it lies in stays. -/
theorem Toks.keep {w w' : World} {B : Nat} {v : Value} {l : List Tok} (h : Toks w B v l) (hz : w.heap.size ≤ w'.heap.size) (hk : ∀ b, B ≤ b → b < w.heap.size → w'.heap[b]? = w.heap[b]?) : Toks w' B v l := by
  obtain ⟨xs, h1, h2⟩ := h
  refine ⟨xs, own_keep5 h1 (fun g hg => hk g (h1.lt g hg).1 (h1.lt g hg).2), ?_⟩
  exact RepT.mono (fun b hb => ⟨hb.1, Nat.lt_of_lt_of_le hb.2.1 hz, hb.2.2⟩) _ _ (RepT.keep (fun b hb => hk b hb.1 hb.2.1) _ _ h2)
theorem Toks.below {w w' : World} {B : Nat} {v : Value} {l : List Tok} (h : Toks w B v l) (hb : Below w.heap.size w w') : Toks w' B v l := h.keep hb.size (fun b _ hlt => hb.block b hlt)
theorem Toks.alloc {w : World} {B : Nat} {v : Value} {l : List Tok} (h : Toks w B v l) (o : Obj) : Toks (w.alloc o) B v l := h.below ((Below.refl _ w).alloc (Nat.le_refl _) o)
theorem Toks.set {w : World} {B g j : Nat} {v : Value} {l : List Tok} (h : Toks w B v l) (hg : g < B) (c : Value) : Toks (w.setCell ⟨g, j, none⟩ c) B v l :=
  h.keep (by simp) (fun b hb _ => Below.heap_setCell w ⟨g, j, none⟩ c b (by show b ≠ g; omega))
/-- .. read as a row. -/
theorem Toks.rows {w : World} {B : Nat} {v : Value} {l : List Tok} (h : Toks w B v l) : ∃ xs, Row (fun b => B ≤ b ∧ b < w.heap.size) w 4 v l.length xs ∧ RepT (fun b => B ≤ b ∧ b < w.heap.size) w xs l := by
  obtain ⟨xs, h1, h2⟩ := h
  exact ⟨xs, Row.own h1 (fun g hg => h1.lt g hg), RepT.mono (fun b hb => ⟨hb.1, hb.2.1⟩) _ _ h2⟩
theorem infoT5 : (Try.prog.info? 31).map (fun i => (i.zero, i.size, i.bytes)) = some (some (.agg #[.int .i64 0, .string ⟨#[]⟩, .slice none 0 0, .string ⟨#[]⟩]), 4, 64) := by kernel_rfl
/-- One more at its end. -/
theorem Toks.snoc {w w' : World} {B g cap : Nat} {v va : Value} {l : List Tok} {t : Tok} {xs : List Value} (hrep : RepT (fun b => B ≤ b ∧ b < w.heap.size ∧ v.ownBlock ≠ some b) w xs l)
    (hrow : Row (fun b => B ≤ b ∧ b < w.heap.size ∧ v.ownBlock ≠ some b) w 2 va t.attrs.length (cellsA t.attrs)) (hgrow : w.grownBy w' v.ownBlock) (hat : v.ownBlock = some g ∨ w.heap.size ≤ g)
    (hown : w'.ownsRow B 31 4 (.slice (some ⟨g, 0, none⟩) (l.length + 1) cap) (l.length + 1) (xs ++ t.cells va)) : Toks w' B (.slice (some ⟨g, 0, none⟩) (l.length + 1) cap) (l ++ [t]) := by
  refine ⟨xs ++ t.cells va, by rw [List.length_append]; exact hown, ?_⟩
  have hk : ∀ b, (B ≤ b ∧ b < w.heap.size ∧ v.ownBlock ≠ some b) → w'.heap[b]? = w.heap[b]? := fun b hb => hgrow.block b hb.2.1 (fun e => hb.2.2 e.symm)
  have hm : ∀ b, (B ≤ b ∧ b < w.heap.size ∧ v.ownBlock ≠ some b) → (B ≤ b ∧ b < w'.heap.size ∧ (Value.slice (some ⟨g, 0, none⟩) (l.length + 1) cap).ownBlock ≠ some b) := fun b hb => by
    refine ⟨hb.1, Nat.lt_of_lt_of_le hb.2.1 hgrow.size, fun e => ?_⟩
    have e : g = b := Option.some.inj e
    subst e
    rcases hat with h | h
    · exact hb.2.2 h
    · omega
  exact RepT.mono hm _ _ (RepT.snoc (hrow.keep hk) _ _ (RepT.keep hk _ _ hrep))
end Go.Proofs.Ytlknmnldblodbaa

/- Package token: a text's tokens. -/
namespace Go.Proofs.Ytlknmnldblodbaa
open Go.RowKit

/-- What a call of the closure leaves of the other blocks. -/
structure AddKept (g0 g1 : Nat) (v : Value) (w w' : World) : Prop where
  size : w.heap.size ≤ w'.heap.size
  block : ∀ k, k < w.heap.size → k ≠ g0 → k ≠ g1 → v.ownBlock ≠ some k → w'.heap[k]? = w.heap[k]?
  os : w'.os = w.os
  tape : w'.tape = w.tape
  output : w'.output = w.output
def AddPost (g0 g1 B : Nat) (v : Value) (s : ByteArray) (l : List Tok) (w : World) (e : Ending) (w' : World) : Prop :=
  e = .returned (.tuple #[]) ∧ ∃ v', Box w' g1 25 [v'] ∧ Box w' g0 9 [.string s] ∧ Toks w' B v' l ∧ AddKept g0 g1 v w w'

set_option maxHeartbeats 4000000 in
set_option maxRecDepth 100000 in
theorem tokAdd (t : Tok) (n : Nat) (s : ByteArray) (l : List Tok) (v va : Value) (g0 g1 B : Nat) (w : World) (b0 : Box w g0 9 [.string s]) (b1 : Box w g1 25 [v]) (hne : g0 ≠ g1) (h0 : g0 < B) (h1 : g1 < B) (hB : B ≤ w.heap.size)
    (hl : Toks w B v l) (hll : l.length ≤ 1073741824) (hn : n ≤ s.size) (hrow : Row (fun b => B ≤ b ∧ b < w.heap.size ∧ v.ownBlock ≠ some b) w 2 va t.attrs.length (cellsA t.attrs)) :
    Calls Try.prog 29 #[.agg #[.int .i64 t.kind, .string t.name, va, .string t.text], .int .i64 (n : Int), .pointer (some ⟨g1, 0, none⟩), .pointer (some ⟨g0, 0, none⟩)] w (AddPost g0 g1 B v (s.extract n s.size) (l ++ M5.keepT t) w) := by
  obtain ⟨wo, rfl⟩ : ∃ wo : World, wo = w := ⟨_, rfl⟩
  obtain ⟨av, cv, rfl⟩ := hrow.slice
  obtain ⟨a2, c2, rfl⟩ := hl.slice
  have hb0 := Lib.hid ((Below.refl wo.heap.size wo).alloc (Nat.le_refl _) (.cells #[.int .i64 t.kind, .string t.name, .slice av t.attrs.length cv, .string t.text] 31))
  have c0 := b0.alloc (.cells #[.int .i64 t.kind, .string t.name, .slice av t.attrs.length cv, .string t.text] 31)
  have c1 := b1.alloc (.cells #[.int .i64 t.kind, .string t.name, .slice av t.attrs.length cv, .string t.text] 31)
  have hl0 := hl.alloc (.cells #[.int .i64 t.kind, .string t.name, .slice av t.attrs.length cv, .string t.text] 31)
  have bt0 := Box.new wo 31 [.int .i64 t.kind, .string t.name, .slice av t.attrs.length cv, .string t.text]
  have hrow0 : Row (fun b => B ≤ b ∧ b < wo.heap.size ∧ (Value.slice a2 l.length c2).ownBlock ≠ some b) (wo.alloc (.cells #[.int .i64 t.kind, .string t.name, .slice av t.attrs.length cv, .string t.text] 31)) 2 (.slice av t.attrs.length cv) t.attrs.length (cellsA t.attrs) := hrow.keep (fun b hb => hb0.out.block b hb.2.1)
  have hz0 : (wo.alloc (.cells #[.int .i64 t.kind, .string t.name, .slice av t.attrs.length cv, .string t.text] 31)).heap.size = wo.heap.size + 1 := by simp
  have x0 := c0.cell (i := 0) rfl
  have x1 := c1.cell (i := 0) rfl
  have f0 := c0.free 0
  have f1 := c1.free 0
  have e1 : (n : Int) ≤ (s.size : Int) := by omega
  by_cases hk : t.kind = 0
  · have hk' : (t.kind != 0) = false := by rw [hk]; rfl
    have hkeep : M5.keepT t = [] := by unfold M5.keepT; rw [if_neg (by simpa using hk)]
    rw [hkeep, List.append_nil]
    replace hk := Lib.hid hk
    obtain ⟨xs, hown, hrep⟩ := hl0
    go_enter Try.func29, Try.ntmps29
    go_upto_region 1 with fail
    generalize wo.alloc (.cells #[.int .i64 t.kind, .string t.name, .slice av t.attrs.length cv, .string t.text] 31) = w0 at *
    have t0 := bt0.cell (i := 0) rfl
    have t1 := bt0.cell (i := 1) rfl
    have t2 := bt0.cell (i := 2) rfl
    have t3 := bt0.cell (i := 3) rfl
    go_wp2_with fail
    go_end0
    have hz : (w0.setCell ⟨g0, 0, none⟩ (.string (s.extract n s.size))).heap.size = wo.heap.size + 1 := by simp [hz0]
    refine ⟨rfl, _, c1.far (p := ⟨g0, 0, none⟩) (Ne.symm hne) _, c0.set 0 (.string (s.extract n s.size)), Toks.set (⟨xs, hown, hrep⟩ : Toks w0 B _ l) h0 _, ⟨by omega, fun k hk0 h2 h3 h4 => ?_, hb0.out.os, hb0.out.tape, hb0.out.output⟩⟩
    rw [Below.heap_setCell w0 ⟨g0, 0, none⟩ _ k h2, hb0.out.block k hk0]
  · have hk' : (t.kind != 0) = true := bne_iff_ne.2 hk
    have hkeep : M5.keepT t = [t] := by unfold M5.keepT; rw [if_pos hk]
    rw [hkeep]
    replace hk := Lib.hid hk
    obtain ⟨xs, hown, hrep⟩ := hl0
    go_enter Try.func29, Try.ntmps29
    go_upto_region 1 with fail
    generalize wo.alloc (.cells #[.int .i64 t.kind, .string t.name, .slice av t.attrs.length cv, .string t.text] 31) = w0 at *
    have t0 := bt0.cell (i := 0) rfl
    have t1 := bt0.cell (i := 1) rfl
    have t2 := bt0.cell (i := 2) rfl
    have t3 := bt0.cell (i := 3) rfl
    obtain ⟨gne0, gne1⟩ : (Value.slice a2 l.length c2).ownBlock ≠ some g0 ∧ (Value.slice a2 l.length c2).ownBlock ≠ some g1 := ⟨fun e => by have := (hl.lt e).1; omega, fun e => by have := (hl.lt e).1; omega⟩
    go_wp2_with (at_builtin; refine wpList_appOne w0 [.int .i64 t.kind, .string t.name, .slice av t.attrs.length cv, .string t.text] rfl _ _ 25 31 rfl B 4 Try.underlying25 infoT5 rfl (by omega) _ l.length xs rfl hown (wo.heap.size + 1) hz0 (by rfl) rfl (by simp [Value.oneCell']) (by omega) (by omega) (by omega) ?_; intro gg cap' w5 hown5 hgrow hat5; have d0 := c0.keep (hgrow.block _ c0.lt (Ne.symm gne0)); have d1 := c1.keep (hgrow.block _ c1.lt (Ne.symm gne1)); have y0 := d0.cell (i := 0) rfl; have y1 := d1.cell (i := 0) rfl; have q0 := d0.free 0; have q1 := d1.free 0; have z0 := (d0.far (p := ⟨g1, 0, none⟩) hne (.slice (some ⟨gg, 0, none⟩) (l.length + 1) cap')).cell (i := 0) rfl)
    go_end0
    have hlist : Toks w5 B (.slice (some ⟨gg, 0, none⟩) (l.length + 1) cap') (l ++ [t]) := Toks.snoc (w := w0) hrep (hrow0.mono (fun b hb => ⟨hb.1, by omega, hb.2.2⟩)) hgrow hat5 hown5
    have hz5 := hgrow.size
    refine ⟨rfl, _, (d1.set 0 (.slice (some ⟨gg, 0, none⟩) (l.length + 1) cap')).far (p := ⟨g0, 0, none⟩) (Ne.symm hne) (.string (s.extract n s.size)), (d0.far (p := ⟨g1, 0, none⟩) hne (.slice (some ⟨gg, 0, none⟩) (l.length + 1) cap')).set 0 (.string (s.extract n s.size)), (hlist.set h1 _).set h0 _, ⟨by simp; omega, fun k hk0 h2 h3 h4 => ?_, hgrow.os.trans hb0.out.os, hgrow.tape.trans hb0.out.tape, hgrow.output.trans hb0.out.output⟩⟩
    rw [Below.heap_setCell _ ⟨g0, 0, none⟩ _ k h2, Below.heap_setCell _ ⟨g1, 0, none⟩ _ k h3, hgrow.block k (by omega) (Ne.symm h4), hb0.out.block k hk0]
end Go.Proofs.Ytlknmnldblodbaa

/- Package token: Tokens. -/
namespace Go.Proofs.Ytlknmnldblodbaa
open Go.RowKit

def ToksPost (l : List Tok) (w : World) (e : Ending) (w' : World) : Prop := ∃ v, e = .returned v ∧ Toks w' w.heap.size v l ∧ Below w.heap.size w w'
theorem AddKept.below {g0 g1 B : Nat} {v : Value} {l : List Tok} {wo w w' : World} (h : AddKept g0 g1 v w w') (hb : Below wo.heap.size wo w) (h0 : wo.heap.size ≤ g0) (h1 : wo.heap.size ≤ g1) (hB : wo.heap.size ≤ B) (hl : Toks w B v l) : Below wo.heap.size wo w' :=
  ⟨h.os.trans hb.os, h.tape.trans hb.tape, h.output.trans hb.output, Nat.le_trans hb.size h.size, fun k hk => by
    have hz := hb.size
    rw [h.block k (by omega) (by omega) (by omega) (fun e => by have := (hl.lt e).1; omega)]
    exact hb.block k hk⟩
theorem Toks.base {w : World} {B B' : Nat} {v : Value} {l : List Tok} (h : Toks w B v l) (hb : B' ≤ B) : Toks w B' v l := by
  obtain ⟨xs, h1, h2⟩ := h
  exact ⟨xs, own_le h1 hb, RepT.mono (fun b hb' => ⟨by omega, hb'.2.1, hb'.2.2⟩) _ _ h2⟩
/-- The row of a new token's attributes, as the closure wants it. -/
theorem own_new {w w0 : World} {B n : Nat} {v va : Value} {l : List Tok} {xs : List Value} (h : w.ownsRow w0.heap.size 44 2 va n xs) (hl : Toks w0 B v l) (hB : B ≤ w0.heap.size) : Row (fun b => B ≤ b ∧ b < w.heap.size ∧ v.ownBlock ≠ some b) w 2 va n xs :=
  Row.own h (fun g hg => by
    have h1 := h.lt g hg
    exact ⟨by omega, h1.2, fun e => by have := (hl.lt e).2; omega⟩)
theorem keepT_len (t : Tok) : (M5.keepT t).length ≤ 1 := by unfold M5.keepT; split <;> simp
theorem bs_cut0 (R : List UInt8) (n : Nat) : (M5.bs R).extract n (M5.bs R).size = M5.bs (R.drop n) := by rw [bs_size, bs_drop]

theorem fold_len (l : List UInt8) : (M1.fold l).length = l.length := by unfold M1.fold; rw [List.length_map]
theorem begin_name_le (l : List UInt8) : (M5.beginR l).1.name.size ≤ l.length := by
  unfold M5.beginR
  split
  · show (M5.bs (M1.fold ((l.drop 1).takeWhile M5.nameB))).size ≤ _
    rw [bs_size, fold_len]
    have h1 := (List.takeWhile_prefix (l := l.drop 1) M5.nameB).length_le
    have h2 : (l.drop 1).length = l.length - 1 := List.length_drop
    omega
  · exact Nat.zero_le _
theorem tag_name_le (l : List UInt8) : (M5.tagR l).1.name.size ≤ l.length := by
  unfold M5.tagR
  split
  · split
    · rename_i c d r _
      split
      · exact begin_name_le _
      · split
        · exact Nat.zero_le _
        · split
          · exact Nat.zero_le _
          · split
            · split
              · show (M5.bs (M1.fold (r.takeWhile M5.nameB))).size ≤ _
                rw [bs_size, fold_len]
                have h1 := (List.takeWhile_prefix (l := r) M5.nameB).length_le
                simp only [List.length_cons]
                omega
              · exact Nat.zero_le _
            · exact Nat.zero_le _
    · exact Nat.zero_le _
  · exact Nat.zero_le _

set_option maxHeartbeats 8000000 in
set_option maxRecDepth 100000 in
theorem tokTokens (s : ByteArray) (w : World) (hg : Glo w) (hs : s.size ≤ 1073741824) : Calls Try.prog 12 #[.string s] w (ToksPost (M5.tokens s.data.toList) w) := by
  obtain ⟨wo, rfl⟩ : ∃ wo : World, wo = w := ⟨_, rfl⟩
  have hE : ∀ (args : Array Value) (w : World), (callFunc 29 args).run Try.prog w = .ok (.enter 29 args) w := enters_of Try.func29 (by kernel_rfl) rfl
  obtain ⟨T, hT⟩ : ∃ T, Hid (T = M5.tokens s.data.toList) := ⟨_, rfl⟩
  rw [← hT.out]
  have bs0 := (Box.new wo 9 [.string s]).alloc (.cells #[.slice none 0 0] 25)
  have bo0 := Box.new (wo.alloc (.cells #[.string s] 9)) 25 [.slice none 0 0]
  have hb0 := ((Below.refl _ wo).alloc (Nat.le_refl _) (.cells #[.string s] 9)).alloc (by simp) (.cells #[.slice none 0 0] 25)
  have hz0 : (wo.alloc (.cells #[.string s] 9)).heap.size = wo.heap.size + 1 := by simp
  rw [hz0] at bo0
  go_enter Try.func12, Try.ntmps12
  go_wp2_with fail
  go_loopw [] (fun wr => ∃ (R : List UInt8) (acc : List Tok) (v : Value), Box wr wo.heap.size 9 [.string (M5.bs R)] ∧ Box wr (wo.heap.size + 1) 25 [v] ∧ Toks wr (wo.heap.size + 2) v acc ∧ Below wo.heap.size wo wr ∧ wo.heap.size + 2 ≤ wr.heap.size ∧ acc.length + R.length ≤ s.size ∧ Hid (T = acc ++ M5.toksR [] R)) (fun wr => strLen ((wr.cell? ⟨wo.heap.size, 0, none⟩).getD undef))
  case atStart => exact ⟨s.data.toList, [], .slice none 0 0, by rw [M5.bs_of]; exact bs0, bo0, Toks.nil _ _, hb0, by simp, by show 0 + s.size ≤ s.size; omega, by show _ = _; rw [hT.out, M5.tokens_eq, List.nil_append]⟩
  case round =>
    obtain ⟨R, acc, v, bs1, bo1, hl, hbw, hws, hal, hv⟩ := hrel
    have hRz : (M5.bs R).size = R.length := bs_size R
    have x0 := bs1.cell (i := 0) rfl
    have x1 := bo1.cell (i := 0) rfl
    have hmeas : ∀ (w' : World) (R' : List UInt8), Box w' wo.heap.size 9 [.string (M5.bs R')] → R'.length < R.length → strLen ((w'.cell? ⟨wo.heap.size, 0, none⟩).getD undef) < strLen ((wr.cell? ⟨wo.heap.size, 0, none⟩).getD undef) := fun w' R' hb hlt => by
      rw [hb.cell (i := 0) rfl, x0]
      show (M5.bs R').size < (M5.bs R).size
      rw [bs_size, hRz]
      exact hlt
    replace hmeas := Lib.hid hmeas
    by_cases hR : R = []
    · have hem : (M5.bs R).toList.isEmpty = true := isEmpty_yes _ (by rw [hRz, hR]; rfl)
      have hne : (!(M5.bs R).toList.isEmpty) = false := by rw [hem]; rfl
      have hTe : T = acc := by rw [hv.out, hR, M5.toksR_nil]; simp [M5.charsT]
      replace hR := Lib.hid hR
      replace hTe := Lib.hid hTe
      go_wp2_with fail
      go_ret
      exact ⟨v, rfl, by rw [hTe.out]; exact hl.base (by omega), hbw⟩
    · have hRp : 0 < R.length := List.length_pos_iff.2 hR
      have hem : (M5.bs R).toList.isEmpty = false := isEmpty_no _ (by omega)
      have hne : (!(M5.bs R).toList.isEmpty) = true := by rw [hem]; rfl
      have hTag := Lib.hid (tokTag (M5.bs R) wr (hg.below hbw (Nat.le_refl _)) (by omega))
      rw [M5.bs_data, hRz] at hTag
      replace hR := Lib.hid hR
      go_wp2_with fail
      refine hTag.out.mono ?_
      rintro e1 w2 ⟨va, rfl, hown, hb2⟩
      have bs2 := bs1.below hb2 bs1.lt
      have bo2 := bo1.below hb2 bo1.lt
      have hl2 := hl.below hb2
      have hbw2 := Lib.hid (bt hbw hb2)
      have hws2 : wo.heap.size + 2 ≤ w2.heap.size := Nat.le_trans hws hb2.size
      have hlr := hl
      have hwsr := hws
      clear x0 x1 bs1 bo1 hl hbw hws hb2
      cases hsB : M5.startsB R
      · have htg : M5.tagR R = (M5.zero, R.drop 0) := tag_no R hsB
        have hn0 : R.length - (M5.tagR R).2.length = 0 := by rw [htg]; show R.length - (R.drop 0).length = 0; rw [List.drop_zero]; omega
        clear hTag htg
        generalize (M5.tagR R).1 = t0 at *
        rw [hn0]
        clear hn0
        obtain ⟨a0, c0, rfl⟩ := own_slice5 hown
        have hCh := Lib.hid (fun w => tokChars (M5.bs R) w (by omega))
        rw [M5.bs_data] at hCh
        have hstep := Lib.hid (M5.toks_step R hR.out hsB)
        have hpos := M5.plain_pos R hR.out hsB
        have hple := M5.plainN_le R
        obtain ⟨N, hN⟩ : ∃ N, N = M5.plainN R := ⟨_, rfl⟩
        rw [← hN] at hCh hstep hpos hple
        obtain ⟨t, ht⟩ : ∃ t, t = M5.charsC R := ⟨_, rfl⟩
        rw [← ht] at hCh
        have hk1 : (t.kind == 1) = false := by rw [ht]; rfl
        have hstep2 : Hid (M5.toksR [] R = M5.keepT t ++ M5.toksR [] (R.drop N)) := by
          show _ = _
          rw [hstep.out, ht]
          unfold M5.charsC
          rw [← hN]
          rfl
        replace ht := Lib.hid ht
        replace hN := Lib.hid hN
        clear hstep hown
        have bt3 := Box.new w2 31 [.int .i64 t0.kind, .string t0.name, .slice a0 t0.attrs.length c0, .string t0.text]
        have hb3 := (Below.refl w2.heap.size w2).alloc (Nat.le_refl _) (.cells #[.int .i64 t0.kind, .string t0.name, .slice a0 t0.attrs.length c0, .string t0.text] 31)
        have y0 := (bs2.alloc (.cells #[.int .i64 t0.kind, .string t0.name, .slice a0 t0.attrs.length c0, .string t0.text] 31)).cell (i := 0) rfl
        replace hb3 := Lib.hid hb3
        go_wp2_with fail
        refine (hCh.out _).mono ?_
        rintro e1 w4 ⟨vb, rfl, hown4, hb4⟩
        have bt4 := bt3.below hb4 bt3.lt
        have hb24 := bt hb3.out hb4
        have z0 := bt4.cell (i := 0) rfl
        have z1 := bt4.cell (i := 1) rfl
        have z2 := bt4.cell (i := 2) rfl
        have z3 := bt4.cell (i := 3) rfl
        have fz := bt4.free
        obtain ⟨a4, c4, rfl⟩ := own_slice5 hown4
        have bt5 := Lib.hid (bt4.four (.int .i64 t.kind) (.string t.name) (.slice a4 t.attrs.length c4) (.string t.text))
        have hb25 := Lib.hid (four_below hb24 (g := w2.heap.size) (.int .i64 t.kind) (.string t.name) (.slice a4 t.attrs.length c4) (.string t.text) (Nat.le_refl _))
        have hown5 := Lib.hid (own_four (g := w2.heap.size) hown4 (by simp) (.int .i64 t.kind) (.string t.name) (.slice a4 t.attrs.length c4) (.string t.text))
        clear hb4 hb24 hown4 y0 bt3
        go_upto_region 7 with fail
        generalize ((((w4.setCell ⟨w2.heap.size, 0, none⟩ (.int .i64 t.kind)).setCell ⟨w2.heap.size, 1, none⟩ (.string t.name)).setCell ⟨w2.heap.size, 2, none⟩ (.slice a4 t.attrs.length c4)).setCell ⟨w2.heap.size, 3, none⟩ (.string t.text)) = w5 at *
        clear bt4 z0 z1 z2 z3 fz
        have u0 := bt5.out.cell (i := 0) rfl
        have u1 := bt5.out.cell (i := 1) rfl
        have u2 := bt5.out.cell (i := 2) rfl
        have u3 := bt5.out.cell (i := 3) rfl
        have hz5 := hb25.out.size
        have hadd := Lib.hid (tokAdd t N (M5.bs R) acc v (.slice a4 t.attrs.length c4) wo.heap.size (wo.heap.size + 1) (wo.heap.size + 2) w5 (bs2.below hb25.out bs2.lt) (bo2.below hb25.out bo2.lt) (by omega) (by omega) (by omega) (by omega) (hl2.below hb25.out) (by omega) (by omega) (own_new (own_le hown5.out (by simp)) hl2 hws2))
        go_wp2_with fail
        refine hadd.out.mono ?_
        rintro e1 w6 ⟨rfl, v6, bo6, bs6, hl6, hk6⟩
        have hvt : v.ownBlock ≠ some w2.heap.size := fun e => by have := (hl2.lt e).2; omega
        have bt6 := bt5.out.keep (hk6.block _ bt5.out.lt (by omega) (by omega) hvt)
        rw [bs_cut0] at bs6
        have hb26 := Lib.hid (hk6.below (bt hbw2.out hb25.out) (Nat.le_refl _) (by omega) (by omega) (hl2.below hb25.out))
        have u0 := bt6.cell (i := 0) rfl
        have u1 := bt6.cell (i := 1) rfl
        go_wp2_with fail
        go_roundw
        case rel => exact ⟨R.drop N, acc ++ M5.keepT t, v6, bs6, bo6, hl6, hb26.out, by have := hk6.size; omega, by have := keepT_len t; rw [List.length_append, List.length_drop]; omega, by show _ = _; rw [hv.out, hstep2.out, List.append_assoc]⟩
        case measure => exact hmeas.out _ _ bs6 (by rw [List.length_drop]; omega)
      · have htl := M5.tag_lt R hsB
        have hat := (M5.tag_suf R).at_
        have hle := (M5.tag_suf R).le
        have hnm := tag_name_le R
        obtain ⟨N, hN⟩ : ∃ N, Hid (N = R.length - (M5.tagR R).2.length) := ⟨_, rfl⟩
        rw [← hN.out] at hat ⊢
        have hNp : 0 < N := by rw [hN.out]; omega
        have hNle : N ≤ R.length := by rw [hN.out]; omega
        have hraw := M5.round_raw R hsB
        have htag := M5.round_tag R hsB
        rw [← hat] at hraw htag
        have hrl : (R.drop N).length = R.length - N := List.length_drop
        clear hTag htl hat hle
        generalize (M5.tagR R).1 = t at *
        obtain ⟨a0, c0, rfl⟩ := own_slice5 hown
        have bt3 := Box.new w2 31 [.int .i64 t.kind, .string t.name, .slice a0 t.attrs.length c0, .string t.text]
        have hb3 := (Below.refl w2.heap.size w2).alloc (Nat.le_refl _) (.cells #[.int .i64 t.kind, .string t.name, .slice a0 t.attrs.length c0, .string t.text] 31)
        have hown3 := hown.alloc (.cells #[.int .i64 t.kind, .string t.name, .slice a0 t.attrs.length c0, .string t.text] 31)
        have hNz : ((N : Int) == 0) = false := by rw [beq_eq_false_iff_ne]; omega
        replace hb3 := Lib.hid hb3
        replace hown3 := Lib.hid hown3
        replace hraw := Lib.hid hraw
        replace htag := Lib.hid htag
        replace hN := Lib.hid hN
        clear hown
        go_upto_region 7 with fail
        have hz3 : w2.heap.size < (w2.alloc (.cells #[.int .i64 t.kind, .string t.name, .slice a0 t.attrs.length c0, .string t.text] 31)).heap.size := bt3.lt
        generalize w2.alloc (.cells #[.int .i64 t.kind, .string t.name, .slice a0 t.attrs.length c0, .string t.text] 31) = w3 at *
        have u0 := bt3.cell (i := 0) rfl
        have u1 := bt3.cell (i := 1) rfl
        have u2 := bt3.cell (i := 2) rfl
        have u3 := bt3.cell (i := 3) rfl
        have hl3 := hl2.below hb3.out
        have hadd := Lib.hid (tokAdd t N (M5.bs R) acc v (.slice a0 t.attrs.length c0) wo.heap.size (wo.heap.size + 1) (wo.heap.size + 2) w3 (bs2.below hb3.out bs2.lt) (bo2.below hb3.out bo2.lt) (by omega) (by omega) (by omega) (by omega) hl3 (by omega) (by omega) (own_new hown3.out hlr hwsr))
        go_wp2_with fail
        refine hadd.out.mono ?_
        rintro e1 w6 ⟨rfl, v6, bo6, bs6, hl6, hk6⟩
        have hvt : v.ownBlock ≠ some w2.heap.size := fun e => by have := (hl2.lt e).2; omega
        have bt6 := bt3.keep (hk6.block _ bt3.lt (by omega) (by omega) hvt)
        rw [bs_cut0] at bs6
        have hb26 := Lib.hid (hk6.below (bt hbw2.out hb3.out) (Nat.le_refl _) (by omega) (by omega) hl3)
        have u0 := bt6.cell (i := 0) rfl
        have u1 := bt6.cell (i := 1) rfl
        have hz6 := hk6.size
        have hlen6 : (acc ++ M5.keepT t).length + (R.drop N).length ≤ s.size := by have := keepT_len t; rw [List.length_append, hrl]; omega
        by_cases hk1 : t.kind = 1
        · have ek : (t.kind == 1) = true := beq_iff_eq.2 hk1
          have hRaw := Lib.hid (fun w => domRaw t.name w)
          replace hk1 := Lib.hid hk1
          cases hrw : M3.rawB t.name.data.toList
          · have hst := htag.out (fun h => by rw [hrw] at h; cases h.2)
            replace hst := Lib.hid hst
            replace hrw := Lib.hid hrw
            go_wp2_with fail
            refine (hRaw.out _).mono ?_
            rintro e1 w7 ⟨rfl, rfl⟩
            rw [hrw.out]
            go_wp2_with fail
            go_roundw
            case rel => exact ⟨R.drop N, acc ++ M5.keepT t, v6, bs6, bo6, hl6, hb26.out, by omega, hlen6, by show _ = _; rw [hv.out, hst.out, List.append_assoc]⟩
            case measure => exact hmeas.out _ _ bs6 (by omega)
          · have hst := hraw.out ⟨hk1.out, hrw⟩
            have hnms : t.name.size ≤ 1073741824 := by omega
            have hC := Lib.hid (fun w => tokContent (M5.bs (R.drop N)) t.name w (by rw [bs_size]; omega) hnms)
            rw [M5.bs_data] at hC
            have hEle := M5.endN_le t.name.data.toList (R.drop N)
            generalize M5.endN t.name.data.toList (R.drop N) = E at *
            have hctl : (M5.keepT (M5.contC E (R.drop N))).length ≤ E := by
              have h1 := keepT_len (M5.contC E (R.drop N))
              by_cases hE0 : E = 0
              · subst hE0
                exact Nat.le_refl _
              · omega
            generalize M5.contC E (R.drop N) = ct at *
            replace hst := Lib.hid hst
            replace hrw := Lib.hid hrw
            have x6 := bs6.cell (i := 0) rfl
            go_wp2_with fail
            refine (hRaw.out _).mono ?_
            rintro e1 w7 ⟨rfl, rfl⟩
            rw [hrw.out]
            go_wp2_with fail
            refine (hC.out _).mono ?_
            rintro e1 w8 ⟨vc, rfl, hown8, hb8⟩
            have bs8 := bs6.below hb8 bs6.lt
            have bo8 := bo6.below hb8 bo6.lt
            have hl8 := hl6.below hb8
            have hb28 := Lib.hid (bt hb26.out hb8)
            have hz8 := hb8.size
            have hadd2 := Lib.hid (tokAdd ct E (M5.bs (R.drop N)) (acc ++ M5.keepT t) v6 vc wo.heap.size (wo.heap.size + 1) (wo.heap.size + 2) w8 bs8 bo8 (by omega) (by omega) (by omega) (by omega) hl8 (by omega) (by rw [bs_size]; exact hEle) (own_new hown8 hl6 (by omega)))
            obtain ⟨a8, c8, rfl⟩ := own_slice5 hown8
            clear x6 u0 u1 hb8
            go_wp2_with fail
            refine hadd2.out.mono ?_
            rintro e1 w9 ⟨rfl, v9, bo9, bs9, hl9, hk9⟩
            have hb29 := Lib.hid (hk9.below hb28.out (Nat.le_refl _) (by omega) (by omega) hl8)
            have hz9 := hk9.size
            rw [bs_cut0] at bs9
            go_wp2_with fail
            go_roundw
            case rel => exact ⟨(R.drop N).drop E, acc ++ M5.keepT t ++ M5.keepT ct, v9, bs9, bo9, hl9, hb29.out, by omega, by rw [List.length_append, List.length_drop]; omega, by show _ = _; rw [hv.out, hst.out, List.append_assoc, List.append_assoc]⟩
            case measure => exact hmeas.out _ _ bs9 (by rw [List.length_drop]; omega)
        · have ek : (t.kind == 1) = false := beq_eq_false_iff_ne.2 hk1
          have hst := htag.out (fun h => hk1 h.1)
          replace hk1 := Lib.hid hk1
          replace hst := Lib.hid hst
          go_wp2_with fail
          go_roundw
          case rel => exact ⟨R.drop N, acc ++ M5.keepT t, v6, bs6, bo6, hl6, hb26.out, by omega, hlen6, by show _ = _; rw [hv.out, hst.out, List.append_assoc]⟩
          case measure => exact hmeas.out _ _ bs6 (by omega)
end Go.Proofs.Ytlknmnldblodbaa

/- Reference 5: a tag, whichever. -/
namespace Go.Proofs.Ytlknmnldblodbaa
open Go.RowKit

theorem refPost_nil {k : Int} {nm tx : ByteArray} {n : Nat} {z : Int} {w w' : World} (hz : z = (n : Int)) (hb : Below w.heap.size w w') :
    TokPost ⟨k, nm, [], tx⟩ n w (.returned (.tuple #[.agg #[.int .i64 k, .string nm, .slice none 0 0, .string tx], .int .i64 z])) w' := by
  subst hz
  exact ⟨.slice none 0 0, rfl, World.ownsRow_nil _ w.heap.size _ _, hb⟩
theorem refPost_nil' {P : Tok × List UInt8} {k : Int} {nm tx : ByteArray} {L : Nat} {r : List UInt8} {z : Int} {w w' : World} (hP : P = (⟨k, nm, [], tx⟩, r)) (hz : z = ((L - r.length : Nat) : Int)) (hb : Below w.heap.size w w') :
    TokPost P.1 (L - P.2.length) w (.returned (.tuple #[.agg #[.int .i64 k, .string nm, .slice none 0 0, .string tx], .int .i64 z])) w' := by
  subst hP
  exact refPost_nil hz hb
theorem cutE (s : ByteArray) (l : List UInt8) (k : Nat) (hk : l.length = k) (b : Bool) (h : l.isPrefixOf s.data.toList = b) : ((s.extract 0 k).toList == l) = b := by
  have := cut4 s k ⟨l.toArray⟩ (by show l.toArray.size = k; simpa using hk)
  rw [Lib.toList_data (⟨l.toArray⟩ : ByteArray)] at this
  rw [← h]
  simpa using this
theorem pre_len {l m : List UInt8} (h : l.isPrefixOf m = true) : l.length ≤ m.length := (List.isPrefixOf_iff_prefix.1 h).length_le
set_option maxHeartbeats 8000000 in
set_option maxRecDepth 100000 in
theorem ref05Tag (s : ByteArray) (w : World) (hs : s.size ≤ 1073741824) : Calls Try.prog 16 #[.string s] w (TokPost (M5.tagR s.data.toList).1 (s.size - (M5.tagR s.data.toList).2.length) w) := by
  by_cases heasy : M5.startsB s.data.toList = true → ∀ h2 : 1 < s.size, M5.letterB s[1] = true
  · exact ref05Tag_easy s w hs heasy
  have hst := Lib.hid (fun w => ref05Starts s w hs)
  have hsB : M5.startsB s.data.toList = true := by
    cases h : M5.startsB s.data.toList
    · exact absurd (fun e => by rw [h] at e; cases e) heasy
    · rfl
  obtain ⟨h2, hl⟩ := two_signs hsB
  have hlt : M5.letterB s[1] = false := by
    cases h : M5.letterB s[1]
    · rfl
    · exact absurd (fun _ _ => h) heasy
  clear heasy
  have hle := Lib.hid (fun w => ref05letter s[1] w)
  have hc := tag_else s[0] s[1] (s.data.toList.drop 2) (by rw [← hl]; exact hsB) hlt
  rw [← hl] at hc
  have hsl : s.data.toList.length = s.size := rfl
  obtain ⟨wo, rfl⟩ : ∃ wo : World, wo = w := ⟨_, rfl⟩
  have bx0 := Box.new wo 31 [.int .i64 0, .string ⟨#[]⟩, .slice none 0 0, .string ⟨#[]⟩]
  have hb0 := Lib.hid ((Below.refl _ wo).alloc (Nat.le_refl _) (.cells #[.int .i64 0, .string ⟨#[]⟩, .slice none 0 0, .string ⟨#[]⟩] 31))
  cases hp4 : [60, 33, 45, 45].isPrefixOf s.data.toList
  · rw [hp4, if_neg Bool.false_ne_true] at hc
    have h4e := cutE s [60, 33, 45, 45] 4 rfl false hp4
    cases hp3 : [60, 47, 62].isPrefixOf s.data.toList
    · rw [hp3, if_neg Bool.false_ne_true] at hc
      have h3e := cutE s [60, 47, 62] 3 rfl false hp3
      have e47 : ((s[1].toNat : Int) == 47) = (s[1] == 47) := (eqI _ 47).symm
      by_cases hA : s[1] = 47 ∧ ((s.data.toList.drop 2).head?.map M5.letterB) = some true
      · have h2s : 2 < s.size := by
          rcases Nat.lt_or_ge 2 s.size with h | h
          · exact h
          · have := hA.2
            rw [drop_end s 2 h] at this
            cases this
        have hl2 : M5.letterB s[2] = true := by
          have := hA.2
          rw [drop_cons s 2 h2s] at this
          exact Option.some.inj this
        have hle2 : Hid (∀ w, Calls Try.prog 39 #[.int .u8 (s[2].toNat : Int)] w (BoolPost true w)) := Lib.hid (fun w => by rw [← hl2]; exact ref05letter s[2] w)
        rw [if_pos hA] at hc
        have hx47 : ((s[1].toNat : Int) == 47) = true := by rw [e47]; exact beq_iff_eq.2 hA.1
        have hdl : (s.data.toList.drop 2).length = s.size - 2 := by rw [List.length_drop]; rfl
        have hFd := Lib.hid (fun w => ref05find s ⟨#[62]⟩ 2 w hs (by decide) (by decide) (by omega))
        have hNm := Lib.hid (fun w => ref05name s 2 w hs (by omega))
        have hfl := M5.findL_le [62] (s.data.toList.drop 2)
        rw [hdl] at hfl hc
        obtain ⟨nm, hnm⟩ : ∃ x, Hid (x = M5.bs (M1.fold ((s.data.toList.drop 2).takeWhile M5.nameB))) := ⟨_, rfl⟩
        rw [← hnm.out, List.drop_drop] at hc
        have hNm2 : Hid (∀ w, Calls Try.prog 43 #[.string s, .int .i64 2] w (fun e w' => ∃ K : Int, e = .returned (.tuple #[.string nm, .int .i64 K]) ∧ Below w.heap.size w w')) := Lib.hid (fun w => (hNm.out w).mono (by
          rintro e w' ⟨rfl, hb⟩
          exact ⟨((2 + M5.spanN M5.nameB (s.data.toList.drop 2) : Nat) : Int), by rw [hnm.out]; rfl, hb⟩))
        have hFd2 : Hid (∀ w, Calls Try.prog 42 #[.string s, .int .i64 2, .string ⟨#[62]⟩] w (PosPost (2 + M5.findL [62] (s.data.toList.drop 2)) w)) := hFd
        clear hFd hNm
        generalize M5.findL [62] (s.data.toList.drop 2) = F at *
        have hdl2 : (s.data.toList.drop (2 + (F + 1))).length = s.size - (2 + (F + 1)) := by rw [List.length_drop]; rfl
        replace hdl := Lib.hid hdl
        replace hA := Lib.hid hA
        clear e47
        by_cases hF : F < s.size - 2
        · rw [if_pos hF] at hc
          have hfin := fun (w' : World) (hb : Below wo.heap.size wo w') => refPost_nil' (L := s.size) (z := (2 : Int) + (F : Int) + 1) (w := wo) (w' := w') hc (by rw [hdl2]; omega) hb
          generalize TokPost (M5.tagR s.data.toList).1 (s.size - (M5.tagR s.data.toList).2.length) wo = Post at *
          replace hl := Lib.hid hl
          replace hc := Lib.hid hc
          replace hdl2 := Lib.hid hdl2
          replace hfin := Lib.hid hfin
          have hge : decide ((s.size : Int) ≤ (2 : Int) + (F : Int)) = false := decide_eq_false (by omega)
          rcases Nat.lt_or_ge s.size 4 with h4s | h4s
          all_goals
            go_enter Try.func16, Try.ntmps16
            go_wp2_with fail
            refine (hst.out _).mono ?_
            rintro e1 w2 ⟨rfl, rfl⟩
            rw [hsB]
            go_wp2_with fail
            refine (hle.out _).mono ?_
            rintro e1 w2 ⟨rfl, rfl⟩
            rw [hlt]
            go_wp2_with fail
            refine (hle2.out _).mono ?_
            rintro e1 w2 ⟨rfl, rfl⟩
            go_wp2_with fail
            refine (hFd2.out _).mono ?_
            rintro e1 w2 ⟨rfl, rfl⟩
            go_wp2_with fail
            refine (hNm2.out _).mono ?_
            rintro e1 w2 ⟨K, rfl, hb2⟩
            have bx2 := bx0.below hb2 bx0.lt
            have z0 := bx2.cell (i := 0) rfl
            have z1 := bx2.cell (i := 1) rfl
            have z2 := bx2.cell (i := 2) rfl
            have z3 := bx2.cell (i := 3) rfl
            have fz := bx2.free
            have bf := Lib.hid (bx2.four (.int .i64 2) (.string nm) (.slice none 0 0) (.string ⟨#[]⟩))
            have hbW := Lib.hid (bt hb0.out hb2)
            clear hb2
            go_wp2_with fail
            have q0 := bf.out.cell (i := 0) rfl
            have q1 := bf.out.cell (i := 1) rfl
            have q2 := bf.out.cell (i := 2) rfl
            have q3 := bf.out.cell (i := 3) rfl
            exact bodyPost_ret (v := .tuple #[.agg #[.int .i64 2, .string nm, .slice none 0 0, .string ⟨#[]⟩], .int .i64 ((2 : Int) + (F : Int) + 1)]) (by simp [results, Try.results16, go_sem, q0, q1, q2, q3]) rfl (hfin.out _ (four_below hbW.out _ _ _ _ (Nat.le_refl _)))
        · rw [if_neg hF] at hc
          have hz : Hid (TokPost (M5.tagR s.data.toList).1 (s.size - (M5.tagR s.data.toList).2.length) wo (.returned (.tuple #[.agg #[.int .i64 0, .string ⟨#[]⟩, .slice none 0 0, .string ⟨#[]⟩], .int .i64 (s.size : Int)])) (wo.alloc (.cells #[.int .i64 0, .string ⟨#[]⟩, .slice none 0 0, .string ⟨#[]⟩] 31))) :=
            Lib.hid (refPost_nil' hc (by show _ = ((s.size - 0 : Nat) : Int); omega) hb0.out)
          have z0 := bx0.cell (i := 0) rfl
          have z1 := bx0.cell (i := 1) rfl
          have z2 := bx0.cell (i := 2) rfl
          have z3 := bx0.cell (i := 3) rfl
          have fz := bx0.free
          generalize TokPost (M5.tagR s.data.toList).1 (s.size - (M5.tagR s.data.toList).2.length) wo = Post at *
          replace hl := Lib.hid hl
          replace hc := Lib.hid hc
          have hge : decide ((s.size : Int) ≤ (2 : Int) + (F : Int)) = true := decide_eq_true (by omega)
          rcases Nat.lt_or_ge s.size 4 with h4s | h4s
          all_goals
            go_enter Try.func16, Try.ntmps16
            go_wp2_with fail
            refine (hst.out _).mono ?_
            rintro e1 w2 ⟨rfl, rfl⟩
            rw [hsB]
            go_wp2_with fail
            refine (hle.out _).mono ?_
            rintro e1 w2 ⟨rfl, rfl⟩
            rw [hlt]
            go_wp2_with fail
            refine (hle2.out _).mono ?_
            rintro e1 w2 ⟨rfl, rfl⟩
            go_wp2_with fail
            refine (hFd2.out _).mono ?_
            rintro e1 w2 ⟨rfl, rfl⟩
            go_wp2_with fail
            exact bodyPost_ret (v := .tuple #[.agg #[.int .i64 0, .string ⟨#[]⟩, .slice none 0 0, .string ⟨#[]⟩], .int .i64 (s.size : Int)]) (by simp [results, Try.results16, go_sem, z0, z1, z2, z3]) rfl hz.out
      · rw [if_neg hA] at hc
        have hguard : ((s[1] == 47) = false) ∨ ((s[1] == 47) = true ∧ ¬ 2 < s.size) ∨ ((s[1] == 47) = true ∧ ∃ h : 2 < s.size, M5.letterB s[2] = false) := by
          by_cases h1 : s[1] = 47
          · by_cases h2s : 2 < s.size
            · refine .inr (.inr ⟨beq_iff_eq.2 h1, h2s, ?_⟩)
              rcases Bool.eq_false_or_eq_true (M5.letterB s[2]) with h | h
              · exact absurd ⟨h1, by rw [drop_cons s 2 h2s]; exact congrArg some h⟩ hA
              · exact h
            · exact .inr (.inl ⟨beq_iff_eq.2 h1, h2s⟩)
          · exact .inl (beq_eq_false_iff_ne.2 h1)
        rw [← e47] at hguard
        replace hA := Lib.hid hA
        clear e47
        have hU := fun w => ref05upto s ⟨#[62]⟩ 2 w hs (by decide) (by decide) (by omega)
        have hfin := fun (w' : World) (hb : Below wo.heap.size wo w') => refPost_nil' (L := s.size) (w := wo) (w' := w') hc rfl hb
        generalize TokPost (M5.tagR s.data.toList).1 (s.size - (M5.tagR s.data.toList).2.length) wo = Post at *
        generalize M5.uptoR [62] (s.data.toList.drop 2) = p at *
        have bf := Lib.hid (Box.new wo 31 [.int .i64 4, .string ⟨#[]⟩, .slice none 0 0, .string (M5.bs p.1)])
        have hfin2 := Lib.hid (hfin _ ((Below.refl _ wo).alloc (Nat.le_refl _) (.cells #[.int .i64 4, .string ⟨#[]⟩, .slice none 0 0, .string (M5.bs p.1)] 31)))
        clear hfin
        replace hl := Lib.hid hl
        replace hc := Lib.hid hc
        replace hU := Lib.hid hU
        have z0 := bx0.cell (i := 0) rfl
        have z1 := bx0.cell (i := 1) rfl
        have z2 := bx0.cell (i := 2) rfl
        have z3 := bx0.cell (i := 3) rfl
        have fz := bx0.free
        have hsz : s.size < 3 ∨ (¬ s.size < 3 ∧ s.size < 4) ∨ ¬ s.size < 4 := by omega
        rcases hguard with h47 | ⟨h47, h2n⟩ | ⟨h47, h2s, hl2⟩
        · rcases hsz with h3s | ⟨h3s, h4s⟩ | h4s
          all_goals
            go_enter Try.func16, Try.ntmps16
            go_wp2_with fail
            refine (hst.out _).mono ?_
            rintro e1 w2 ⟨rfl, rfl⟩
            rw [hsB]
            go_wp2_with fail
            refine (hle.out _).mono ?_
            rintro e1 w2 ⟨rfl, rfl⟩
            rw [hlt]
            go_wp2_with fail
            refine (hU.out _).mono ?_
            rintro e1 w2 ⟨rfl, rfl⟩
            go_wp2_with fail
            have q0 := bf.out.cell (i := 0) rfl
            have q1 := bf.out.cell (i := 1) rfl
            have q2 := bf.out.cell (i := 2) rfl
            have q3 := bf.out.cell (i := 3) rfl
            exact bodyPost_ret (v := .tuple #[.agg #[.int .i64 4, .string ⟨#[]⟩, .slice none 0 0, .string (M5.bs p.1)], .int .i64 ((s.size - p.2.length : Nat) : Int)]) (by simp [results, Try.results16, go_sem, q0, q1, q2, q3]) rfl hfin2.out
        · have h3s : s.size < 3 := by omega
          go_enter Try.func16, Try.ntmps16
          go_wp2_with fail
          refine (hst.out _).mono ?_
          rintro e1 w2 ⟨rfl, rfl⟩
          rw [hsB]
          go_wp2_with fail
          refine (hle.out _).mono ?_
          rintro e1 w2 ⟨rfl, rfl⟩
          rw [hlt]
          go_wp2_with fail
          refine (hU.out _).mono ?_
          rintro e1 w2 ⟨rfl, rfl⟩
          go_wp2_with fail
          have q0 := bf.out.cell (i := 0) rfl
          have q1 := bf.out.cell (i := 1) rfl
          have q2 := bf.out.cell (i := 2) rfl
          have q3 := bf.out.cell (i := 3) rfl
          exact bodyPost_ret (v := .tuple #[.agg #[.int .i64 4, .string ⟨#[]⟩, .slice none 0 0, .string (M5.bs p.1)], .int .i64 ((s.size - p.2.length : Nat) : Int)]) (by simp [results, Try.results16, go_sem, q0, q1, q2, q3]) rfl hfin2.out
        · have hle2 : Hid (∀ w, Calls Try.prog 39 #[.int .u8 (s[2].toNat : Int)] w (BoolPost false w)) := Lib.hid (fun w => by rw [← hl2]; exact ref05letter s[2] w)
          rcases hsz with h3s | ⟨h3s, h4s⟩ | h4s
          · exact absurd h2s (by omega)
          all_goals
            go_enter Try.func16, Try.ntmps16
            go_wp2_with fail
            refine (hst.out _).mono ?_
            rintro e1 w2 ⟨rfl, rfl⟩
            rw [hsB]
            go_wp2_with fail
            refine (hle.out _).mono ?_
            rintro e1 w2 ⟨rfl, rfl⟩
            rw [hlt]
            go_wp2_with fail
            refine (hle2.out _).mono ?_
            rintro e1 w2 ⟨rfl, rfl⟩
            go_wp2_with fail
            refine (hU.out _).mono ?_
            rintro e1 w2 ⟨rfl, rfl⟩
            go_wp2_with fail
            have q0 := bf.out.cell (i := 0) rfl
            have q1 := bf.out.cell (i := 1) rfl
            have q2 := bf.out.cell (i := 2) rfl
            have q3 := bf.out.cell (i := 3) rfl
            exact bodyPost_ret (v := .tuple #[.agg #[.int .i64 4, .string ⟨#[]⟩, .slice none 0 0, .string (M5.bs p.1)], .int .i64 ((s.size - p.2.length : Nat) : Int)]) (by simp [results, Try.results16, go_sem, q0, q1, q2, q3]) rfl hfin2.out
    · rw [hp3, if_pos rfl] at hc
      have h3s : 3 ≤ s.size := pre_len hp3
      have h3e := cutE s [60, 47, 62] 3 rfl true hp3
      have hz : Hid (TokPost (M5.tagR s.data.toList).1 (s.size - (M5.tagR s.data.toList).2.length) wo (.returned (.tuple #[.agg #[.int .i64 0, .string ⟨#[]⟩, .slice none 0 0, .string ⟨#[]⟩], .int .i64 3])) (wo.alloc (.cells #[.int .i64 0, .string ⟨#[]⟩, .slice none 0 0, .string ⟨#[]⟩] 31))) :=
        Lib.hid (refPost_nil' hc (by rw [List.length_drop, hsl]; omega) hb0.out)
      have z0 := bx0.cell (i := 0) rfl
      have z1 := bx0.cell (i := 1) rfl
      have z2 := bx0.cell (i := 2) rfl
      have z3 := bx0.cell (i := 3) rfl
      have fz := bx0.free
      generalize TokPost (M5.tagR s.data.toList).1 (s.size - (M5.tagR s.data.toList).2.length) wo = Post at *
      replace hl := Lib.hid hl
      replace hc := Lib.hid hc
      rcases Nat.lt_or_ge s.size 4 with h4s | h4s
      all_goals
        go_enter Try.func16, Try.ntmps16
        go_wp2_with fail
        refine (hst.out _).mono ?_
        rintro e1 w2 ⟨rfl, rfl⟩
        rw [hsB]
        go_wp2_with fail
        refine (hle.out _).mono ?_
        rintro e1 w2 ⟨rfl, rfl⟩
        rw [hlt]
        go_wp2_with fail
        exact bodyPost_ret (v := .tuple #[.agg #[.int .i64 0, .string ⟨#[]⟩, .slice none 0 0, .string ⟨#[]⟩], .int .i64 3]) (by simp [results, Try.results16, go_sem, z0, z1, z2, z3]) rfl hz.out
  · rw [hp4, if_pos rfl] at hc
    have h4s : 4 ≤ s.size := pre_len hp4
    have h4e := cutE s [60, 33, 45, 45] 4 rfl true hp4
    have hU := fun w => ref05upto s ⟨#[45, 45, 62]⟩ 4 w hs (by decide) (by decide) h4s
    have hfin := fun (w' : World) (hb : Below wo.heap.size wo w') => refPost_nil' (L := s.size) (w := wo) (w' := w') hc rfl hb
    generalize TokPost (M5.tagR s.data.toList).1 (s.size - (M5.tagR s.data.toList).2.length) wo = Post at *
    generalize M5.uptoR [45, 45, 62] (s.data.toList.drop 4) = p at *
    have bf := Lib.hid (Box.new wo 31 [.int .i64 4, .string ⟨#[]⟩, .slice none 0 0, .string (M5.bs p.1)])
    have hfin2 := Lib.hid (hfin _ ((Below.refl _ wo).alloc (Nat.le_refl _) (.cells #[.int .i64 4, .string ⟨#[]⟩, .slice none 0 0, .string (M5.bs p.1)] 31)))
    clear hfin
    replace hl := Lib.hid hl
    replace hc := Lib.hid hc
    replace hU := Lib.hid hU
    have z0 := bx0.cell (i := 0) rfl
    have z1 := bx0.cell (i := 1) rfl
    have z2 := bx0.cell (i := 2) rfl
    have z3 := bx0.cell (i := 3) rfl
    have fz := bx0.free
    go_enter Try.func16, Try.ntmps16
    go_wp2_with fail
    refine (hst.out _).mono ?_
    rintro e1 w2 ⟨rfl, rfl⟩
    rw [hsB]
    go_wp2_with fail
    refine (hle.out _).mono ?_
    rintro e1 w2 ⟨rfl, rfl⟩
    rw [hlt]
    go_wp2_with fail
    refine (hU.out _).mono ?_
    rintro e1 w2 ⟨rfl, rfl⟩
    go_wp2_with fail
    have q0 := bf.out.cell (i := 0) rfl
    have q1 := bf.out.cell (i := 1) rfl
    have q2 := bf.out.cell (i := 2) rfl
    have q3 := bf.out.cell (i := 3) rfl
    exact bodyPost_ret (v := .tuple #[.agg #[.int .i64 4, .string ⟨#[]⟩, .slice none 0 0, .string (M5.bs p.1)], .int .i64 ((s.size - p.2.length : Nat) : Int)]) (by simp [results, Try.results16, go_sem, q0, q1, q2, q3]) rfl hfin2.out
end Go.Proofs.Ytlknmnldblodbaa
