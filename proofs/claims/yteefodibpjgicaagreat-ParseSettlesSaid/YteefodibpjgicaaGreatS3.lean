/- Texts joined: Ref05e, Kmp, Math5f, Math5s, Math5t, Bld0, Math3m, Math6, Utf, Shelf3, Dom1, Math3b, Dom2, Dom3, Math3c, MapKit, Dom4. -/
import Derived.Lib.FrozenHead
import Derived.Shelf.RegionOpenPlain
import Derived.Lib.Builder
import Derived.Lib.UnsafeStr
import Derived.BigCall
import Derived.Deep.QuietTactic
import Derived.BigQuiet
import Derived.Test.YteefodibpjgicaaGreatRows
import Derived.Shelf.Strings.Runes
import Derived.Shelf.Strings.IndexAny
import Derived.Shelf.Strings.AsciiSet
import Derived.Shelf.Strings.IndexAnyAll
import Derived.IntWalk
import Derived.Outline
import Derived.Lib.IndexAny
import Derived.WalkMore
import Derived.Maps.OwnSet
import Derived.Lib.Hide
import Derived.Test.YteefodibpjgicaaGreatS1
import Derived.Test.YteefodibpjgicaaGreatS2
namespace Go.Proofs.YteefodibpjgicaaGreat
open Go.RowKit
def endV : Option Nat → Int
  | some k => (k : Int)
  | none => -1
def EndsPost (o : Option Nat) (w : World) (e : Ending) (w' : World) : Prop := e = .returned (.int .i64 (endV o)) ∧ Below w.heap.size w w'
def edgeB (d : UInt8) : Bool := M5.blankB d || d == 47 || d == 62
theorem ends_step (wd : List UInt8) (s : ByteArray) (i n : Nat) (hn : wd.length = n) (h : i + n < s.size) : M5.endsL wd (s.data.toList.drop i) = if (M1.fold ((s.data.toList.drop i).take n) == wd && edgeB s[i + n]) then some 0 else (M5.endsL wd (s.data.toList.drop (i + 1))).map (· + 1) := by
  subst hn
  have hd : (s.data.toList.drop i).drop wd.length = s[i + wd.length] :: s.data.toList.drop (i + wd.length + 1) := by
    rw [List.drop_drop]; exact drop_cons s _ h
  rw [drop_cons s i (by omega)] at hd ⊢
  rw [M5.endsL, hd]
  rfl
theorem ends_short (wd l : List UInt8) (h : l.length ≤ wd.length) : M5.endsL wd l = none := by
  induction l with
  | nil => rfl
  | cons c r ih =>
    rw [M5.endsL, List.drop_of_length_le h, ih (by simp only [List.length_cons] at h; omega)]
    simp
set_option maxHeartbeats 2000000 in
set_option maxRecDepth 100000 in
theorem ref05Ends (s nm : ByteArray) (w : World) (hs : s.size ≤ 1073741824) (hn : nm.size ≤ 1073741824) :
    Calls Tryz.prog 69 #[.string s, .string nm] w (EndsPost (M5.endsL ([60, 47] ++ nm.data.toList) s.data.toList) w) := by
  obtain ⟨wd, hwd⟩ : ∃ wd : List UInt8, wd = [60, 47] ++ nm.data.toList := ⟨_, rfl⟩
  have hwl : wd.length = 2 + nm.size := by rw [hwd, List.length_append]; show 2 + nm.size = _; rfl
  obtain ⟨R, h0⟩ : ∃ R, Hid (R = (M5.endsL wd (s.data.toList.drop 0)).map (· + 0)) := ⟨(M5.endsL wd (s.data.toList.drop 0)).map (· + 0), Lib.hid rfl⟩
  rw [← hwd, show M5.endsL wd s.data.toList = R by rw [h0.out]; simp]
  have hW : Hid (((⟨#[60, 47]⟩ : ByteArray) ++ nm).toList = wd) := by show _ = _; rw [Lib.toList_data, ByteArray.data_append, Array.toList_append, hwd]
  replace hwd := Lib.hid hwd
  have hadd : ¬ 9223372036854775807 < 2 + nm.size := by omega
  obtain ⟨wo, rfl⟩ : ∃ wo : World, wo = w := ⟨_, rfl⟩
  go_enter Tryz.func69, Tryz.ntmps69
  go_wp2_with fail
  obtain ⟨n, hnn⟩ : ∃ n, n = 2 + nm.size := ⟨_, rfl⟩
  rw [show (2 : Int) + (nm.size : Int) = ((n : Nat) : Int) by omega]
  have hwn : wd.length = n := by omega
  have hnb : n ≤ 1073741826 := by omega
  clear hwl
  replace hnn := Lib.hid hnn
  go_loopw [6] (fun u6 wr => Below wo.heap.size wo wr ∧ ∃ i : Nat, i ≤ s.size ∧ u6 = .int .i64 (i : Int) ∧ Hid (R = (M5.endsL wd (s.data.toList.drop i)).map (· + i))) (fun u6 _ => s.size - (intOf u6).toNat)
  case atStart => exact ⟨Below.refl _ _, 0, (by omega), rfl, h0⟩
  case round =>
    obtain ⟨hbl, i, hi, rfl, hv⟩ := hrel
    by_cases hlt : i + n < s.size
    · have hil : i < s.size := by omega
      have hstep := ends_step wd s i n (by omega) (by omega)
      have hx : (s.extract i (i + n)).data.toList = (s.data.toList.drop i).take n := by rw [Lib.extract_data, Nat.add_sub_cancel_left]
      have hxs : (s.extract i (i + n)).size ≤ 1073741824 := by rw [ByteArray.size_extract]; omega
      have hF := Lib.hid (fun w => ref01Fold (s.extract i (i + n)) w hxs)
      rw [← hx] at hstep
      replace hx := Lib.hid hx
      obtain ⟨G, hG⟩ : ∃ G, G = M1.fold (s.extract i (i + n)).data.toList := ⟨_, rfl⟩
      rw [← hG] at hstep
      replace hG := Lib.hid hG
      replace hstep := Lib.hid hstep
      go_wp2_with fail
      replace hstep := hstep.out
      refine (hF.out _).mono ?_
      rintro e1 w1 ⟨rfl, hb1⟩
      rw [← hG.out]
      have hBl := Lib.hid (fun w => ref05blank s[i + n] w)
      by_cases hg : G = wd
      · have hcmp : (G == ((⟨#[60, 47]⟩ : ByteArray) ++ nm).toList) = true := by rw [hW.out, hg]; simp
        rw [show (G == wd) = true by rw [hg]; simp, Bool.true_and] at hstep
        replace hg := Lib.hid hg
        replace hstep := Lib.hid hstep
        go_wp2_with fail
        replace hstep := hstep.out
        refine (hBl.out _).mono ?_
        rintro e2 w2 ⟨rfl, rfl⟩
        have e47 : ((s[i + n].toNat : Int) == 47) = (s[i + n] == 47) := (eqI _ 47).symm
        have e62 : ((s[i + n].toNat : Int) == 62) = (s[i + n] == 62) := (eqI _ 62).symm
        have hyes : edgeB s[i + n] = true → R = some i := fun hed => by rw [hv.out, hstep, hed, if_pos rfl]; exact congrArg some (Nat.zero_add i)
        have hnot : edgeB s[i + n] = false → R = (M5.endsL wd (s.data.toList.drop (i + 1))).map (· + (i + 1)) := fun hed => by
          rw [hv.out, hstep, hed, if_neg (by simp), Option.map_map]
          congr 1; funext k; show k + 1 + i = k + (i + 1); omega
        replace hstep := Lib.hid hstep
        rw [edgeB] at hyes hnot
        rcases Bool.eq_false_or_eq_true (M5.blankB s[i + n]) with hb | hb
        · rw [hb]
          replace hyes := Lib.hid (hyes (by rw [hb]; rfl))
          clear hnot e47 e62
          go_wp2_with fail
          go_ret
          exact ⟨by rw [hyes.out]; rfl, bt hbl hb1⟩
        · rw [hb] at hyes hnot ⊢
          rcases Bool.eq_false_or_eq_true (s[i + n] == 47) with h4 | h4
          · rw [h4] at hyes e47
            replace hyes := Lib.hid (hyes rfl)
            clear hnot e62
            replace h4 := Lib.hid h4
            go_wp2_with fail
            go_ret
            exact ⟨by rw [hyes.out]; rfl, bt hbl hb1⟩
          · rw [h4] at hyes hnot e47
            rcases Bool.eq_false_or_eq_true (s[i + n] == 62) with h6 | h6
            · rw [h6] at hyes e62
              replace hyes := Lib.hid (hyes rfl)
              clear hnot
              replace h4 := Lib.hid h4
              replace h6 := Lib.hid h6
              go_wp2_with fail
              go_ret
              exact ⟨by rw [hyes.out]; rfl, bt hbl hb1⟩
            · rw [h6] at hnot e62
              replace hnot := Lib.hid (hnot rfl)
              clear hyes
              replace h4 := Lib.hid h4
              replace h6 := Lib.hid h6
              go_wp2_with fail
              go_round
              case rel => exact ⟨bt hbl hb1, i + 1, by omega, by go_num, hnot⟩
              case measure => exact rf_meas hil
      · have hcmp : (G == ((⟨#[60, 47]⟩ : ByteArray) ++ nm).toList) = false := by rw [hW.out, beq_eq_false_iff_ne]; exact hg
        have hv2 : Hid (R = (M5.endsL wd (s.data.toList.drop (i + 1))).map (· + (i + 1))) := by
          show _ = _
          rw [hv.out, hstep, show (G == wd) = false by rw [beq_eq_false_iff_ne]; exact hg, Bool.false_and, if_neg (by simp), Option.map_map]
          congr 1; funext k; show k + 1 + i = k + (i + 1); omega
        replace hg := Lib.hid hg
        replace hstep := Lib.hid hstep
        go_wp2_with fail
        go_round
        case rel => exact ⟨bt hbl hb1, i + 1, by omega, by go_num, hv2⟩
        case measure => exact rf_meas hil
    · have hno : R = none := by
        rw [hv.out, ends_short wd _ (by rw [List.length_drop]; show s.size - i ≤ _; omega)]; rfl
      replace hno := Lib.hid hno
      go_wp2_with fail
      go_ret
      exact ⟨by rw [hno.out]; rfl, hbl⟩
end Go.Proofs.YteefodibpjgicaaGreat

namespace Go.Proofs.YteefodibpjgicaaGreat.Kmp
def Low (u : List UInt8) : Prop := ∀ x ∈ u, M1.small x = x
def IsL (wd u : List UInt8) (h : Nat) : Prop := h ≤ wd.length ∧ wd.take h <:+ u ∧ ∀ k, k ≤ wd.length → wd.take k <:+ u → k ≤ h
def MB (wd : List UInt8) (j b : Nat) : Prop := b < j ∧ wd.take b <:+ wd.take j ∧ ∀ k, k < j → wd.take k <:+ wd.take j → k ≤ b
def Tab (wd : List UInt8) (bk : Nat → Nat) (M : Nat) : Prop := ∀ j, 1 ≤ j → j ≤ M → bk j < j ∧ (Low (wd.take j) → MB wd j (bk j))
def Cand (wd u : List UInt8) (c : UInt8) (h : Nat) : Prop := wd.take h <:+ u ∧ ∀ k, k ≤ wd.length → wd.take k <:+ u ++ [c] → k ≤ h + 1
theorem suf_snoc {a u : List UInt8} {x c : UInt8} (h : a ++ [x] <:+ u ++ [c]) : a <:+ u ∧ x = c := by
  obtain ⟨t, ht⟩ := h
  rw [← List.append_assoc] at ht
  have := List.append_inj' ht rfl
  exact ⟨⟨t, this.1⟩, by simpa using this.2⟩
theorem take_snoc (wd : List UInt8) (k : Nat) (h : k < wd.length) : wd.take (k + 1) = wd.take k ++ [wd[k]] := List.take_succ_eq_append_getElem h
theorem cand_of {wd u : List UInt8} {c : UInt8} {h : Nat} (hl : IsL wd u h) : Cand wd u c h := by
  refine ⟨hl.2.1, fun k hk hs => ?_⟩
  cases k with
  | zero => omega
  | succ k =>
    rw [take_snoc wd k (by omega)] at hs
    have := hl.2.2 k (by omega) (suf_snoc hs).1
    omega
theorem cand_hit {wd u : List UInt8} {c : UInt8} {h : Nat} (hc : Cand wd u c h) (hh : h < wd.length) (he : wd[h] = c) : IsL wd (u ++ [c]) (h + 1) := by
  refine ⟨hh, ?_, hc.2⟩
  rw [take_snoc wd h hh, he]
  obtain ⟨t, ht⟩ := hc.1
  exact ⟨t, by rw [← List.append_assoc, ht]⟩
theorem cand_zero {wd u : List UInt8} {c : UInt8} (hc : Cand wd u c 0) (hh : 0 < wd.length) (he : wd[0] ≠ c) : IsL wd (u ++ [c]) 0 := by
  refine ⟨Nat.zero_le _, ⟨u ++ [c], by simp⟩, fun k hk hs => ?_⟩
  have h1 := hc.2 k hk hs
  rcases Nat.lt_or_ge 0 k with h | h
  · obtain rfl : k = 1 := by omega
    rw [take_snoc wd 0 hh] at hs
    exact absurd (suf_snoc hs).2 he
  · exact h
theorem low_suf {a u : List UInt8} (h : a <:+ u) (hu : Low u) : Low a := fun x hx => hu x (h.subset hx)
theorem cand_miss {wd u : List UInt8} {c : UInt8} {h M : Nat} {bk : Nat → Nat} (hu : Low u) (ht : Tab wd bk M) (h1 : 1 ≤ h) (hM : h ≤ M) (hn : h ≤ wd.length) (hc : Cand wd u c h) (he : ∀ hh : h < wd.length, wd[h] ≠ c) : Cand wd u c (bk h) := by
  obtain ⟨hb1, hb2⟩ := ht h h1 hM
  obtain ⟨m1, m2, m3⟩ := hb2 (low_suf hc.1 hu)
  refine ⟨m2.trans hc.1, fun k hk hs => ?_⟩
  have h2 := hc.2 k hk hs
  cases k with
  | zero => omega
  | succ k =>
    rw [take_snoc wd k (by omega)] at hs
    obtain ⟨s1, s2⟩ := suf_snoc hs
    by_cases hkh : k = h
    · subst hkh
      exact absurd s2 (he (by omega))
    · have hlt : k < h := by omega
      have := m3 k hlt (List.suffix_of_suffix_length_le s1 hc.1 (by rw [List.length_take, List.length_take]; omega))
      omega
def Strides (wd : List UInt8) (h : Nat) (c : UInt8) (r : Nat) : Prop := r ≤ h + 1 ∧ r ≤ wd.length ∧ ∀ u, Low u → IsL wd u h → IsL wd (u ++ [M1.small c]) r
theorem isL_nil (wd : List UInt8) : IsL wd [] 0 := by
  refine ⟨Nat.zero_le _, ⟨[], by simp⟩, fun k hk hs => ?_⟩
  have := hs.length_le
  rw [List.length_take, List.length_nil] at this
  omega
theorem tab_one (wd : List UInt8) (bk : Nat → Nat) (h : bk 1 = 0) : Tab wd bk 1 := by
  intro j h1 h2
  obtain rfl : j = 1 := by omega
  rw [h]
  refine ⟨by omega, fun _ => ⟨by omega, ⟨wd.take 1, by simp⟩, fun k hk _ => by omega⟩⟩
theorem isL_mb {wd : List UInt8} {i b : Nat} (h1 : 1 ≤ i) (hi : i ≤ wd.length) (h : MB wd i b) : IsL wd ((wd.take i).drop 1) b := by
  have hlen : (wd.take i).length = i := by rw [List.length_take]; omega
  refine ⟨by have := h.1; omega, ?_, fun k hk hs => ?_⟩
  · refine List.suffix_of_suffix_length_le h.2.1 (List.drop_suffix 1 _) ?_
    rw [List.length_drop, hlen, List.length_take]
    have := h.1
    omega
  · have hl := hs.length_le
    rw [List.length_drop, hlen, List.length_take] at hl
    exact h.2.2 k (by omega) (hs.trans (List.drop_suffix 1 _))
theorem mb_isL {wd : List UInt8} {i b : Nat} (h1 : 1 ≤ i) (hi : i ≤ wd.length) (h : IsL wd ((wd.take i).drop 1) b) : MB wd i b := by
  have hlen : (wd.take i).length = i := by rw [List.length_take]; omega
  have hl := h.2.1.length_le
  rw [List.length_drop, hlen, List.length_take] at hl
  have hb := h.1
  refine ⟨by omega, h.2.1.trans (List.drop_suffix 1 _), fun k hk hs => ?_⟩
  refine h.2.2 k (by omega) (List.suffix_of_suffix_length_le hs (List.drop_suffix 1 _) ?_)
  rw [List.length_drop, hlen, List.length_take]
  omega
theorem tab_next {wd : List UInt8} {bk : Nat → Nat} {i : Nat} (h1 : 1 ≤ i) (hi : i < wd.length) (ht : Tab wd bk i) (r : Nat) (hr : Strides wd (bk i) wd[i] r) :
    Tab wd (fun j => if j = i + 1 then r else bk j) (i + 1) := by
  intro j j1 j2
  obtain ⟨t1, t2⟩ := ht i h1 (Nat.le_refl _)
  by_cases hj : j = i + 1
  · subst hj
    simp only [if_true]
    refine ⟨by have := hr.1; omega, fun hlow => ?_⟩
    have hlow1 : Low (wd.take i) := fun x hx => hlow x (by rw [take_snoc wd i hi]; exact List.mem_append_left _ hx)
    have hsm : M1.small wd[i] = wd[i] := hlow _ (by rw [take_snoc wd i hi]; exact List.mem_append_right _ (List.mem_singleton_self _))
    have hL := hr.2.2 _ (low_suf (List.drop_suffix 1 _) hlow1) (isL_mb h1 (by omega) (t2 hlow1))
    refine mb_isL (by omega) (by omega) ?_
    rw [hsm] at hL
    have e : (wd.take (i + 1)).drop 1 = (wd.take i).drop 1 ++ [wd[i]] := by
      rw [take_snoc wd i hi, List.drop_append_of_le_length (by rw [List.length_take]; omega)]
    rw [e]
    exact hL
  · simp only [if_neg hj]
    exact ht j j1 (by omega)
def Hit (wd l : List UInt8) (j : Nat) : Prop := M1.fold ((l.drop j).take wd.length) = wd ∧ ∃ h : j + wd.length < l.length, edgeB l[j + wd.length] = true
theorem ends_cons (wd : List UInt8) (c : UInt8) (r : List UInt8) : (Hit wd (c :: r) 0 → M5.endsL wd (c :: r) = some 0) ∧ (¬ Hit wd (c :: r) 0 → M5.endsL wd (c :: r) = (M5.endsL wd r).map (· + 1)) := by
  rw [M5.endsL]
  constructor
  · rintro ⟨h1, h2, h3⟩
    rw [Nat.zero_add] at h2
    have e : (c :: r).drop wd.length = (c :: r)[wd.length] :: (c :: r).drop (wd.length + 1) := List.drop_eq_getElem_cons h2
    rw [List.drop_zero] at h1
    rw [e, h1]
    have h3' : edgeB (c :: r)[wd.length] = true := by simpa using h3
    rw [if_pos]
    rw [beq_self_eq_true, Bool.true_and]
    exact h3'
  · intro h
    rw [if_neg]
    intro h'
    apply h
    rw [Bool.and_eq_true] at h'
    obtain ⟨h1, h2⟩ := h'
    refine ⟨by rw [List.drop_zero]; exact beq_iff_eq.1 h1, ?_⟩
    by_cases hl : wd.length < (c :: r).length
    · refine ⟨by rw [Nat.zero_add]; exact hl, ?_⟩
      have e : (c :: r).drop wd.length = (c :: r)[wd.length] :: (c :: r).drop (wd.length + 1) := List.drop_eq_getElem_cons hl
      rw [e] at h2
      have h2' : edgeB (c :: r)[wd.length] = true := h2
      simpa using h2'
    · rw [List.drop_of_length_le (by omega)] at h2
      cases h2
theorem hit_cons (wd : List UInt8) (c : UInt8) (r : List UInt8) (j : Nat) : Hit wd (c :: r) (j + 1) ↔ Hit wd r j := by
  unfold Hit
  rw [List.drop_succ_cons]
  constructor
  · rintro ⟨h1, h2, h3⟩
    have h2' : j + wd.length < r.length := by simp only [List.length_cons] at h2; omega
    refine ⟨h1, h2', ?_⟩
    have e : (c :: r)[j + 1 + wd.length] = r[j + wd.length] := by
      rw [List.getElem_cons]
      rw [dif_neg (by omega)]
      congr 1
      omega
    rw [← e]
    exact h3
  · rintro ⟨h1, h2, h3⟩
    have h2' : j + 1 + wd.length < (c :: r).length := by simp only [List.length_cons]; omega
    refine ⟨h1, h2', ?_⟩
    have e : (c :: r)[j + 1 + wd.length] = r[j + wd.length] := by
      rw [List.getElem_cons]
      rw [dif_neg (by omega)]
      congr 1
      omega
    rw [e]
    exact h3
theorem ends_some (wd : List UInt8) : ∀ (l : List UInt8) (j : Nat), Hit wd l j → (∀ k, k < j → ¬ Hit wd l k) → M5.endsL wd l = some j := by
  intro l
  induction l with
  | nil => intro j h; obtain ⟨_, h2, _⟩ := h; simp at h2
  | cons c r ih =>
    intro j h hn
    cases j with
    | zero => exact (ends_cons wd c r).1 h
    | succ j =>
      rw [(ends_cons wd c r).2 (hn 0 (by omega)), ih j ((hit_cons wd c r j).1 h) (fun k hk h' => hn (k + 1) (by omega) ((hit_cons wd c r k).2 h'))]
      rfl
theorem ends_none (wd : List UInt8) : ∀ (l : List UInt8), (∀ k, ¬ Hit wd l k) → M5.endsL wd l = none := by
  intro l
  induction l with
  | nil => intro _; rfl
  | cons c r ih =>
    intro hn
    rw [(ends_cons wd c r).2 (hn 0), ih (fun k h' => hn (k + 1) ((hit_cons wd c r k).2 h'))]
    rfl
theorem hit_iff {wd l : List UInt8} {i h : Nat} (hi : i < l.length) (hL : IsL wd (M1.fold (l.take i)) h) (hw : wd.length ≤ i) : Hit wd l (i - wd.length) ↔ (h = wd.length ∧ edgeB l[i] = true) := by
  have hfl : M1.fold (l.take i) = M1.fold (l.take (i - wd.length)) ++ M1.fold ((l.drop (i - wd.length)).take wd.length) := by
    unfold M1.fold
    rw [← List.map_append]
    congr 1
    have : l.take i = l.take ((i - wd.length) + wd.length) := by rw [Nat.sub_add_cancel hw]
    rw [this, List.take_add]
  have hx : M1.fold ((l.drop (i - wd.length)).take wd.length) = wd ↔ h = wd.length := by
    constructor
    · intro e
      have := hL.2.2 wd.length (Nat.le_refl _) (by rw [List.take_length, hfl, e]; exact ⟨_, rfl⟩)
      have := hL.1
      omega
    · intro e
      subst e
      have h2 := hL.2.1
      rw [List.take_length, hfl] at h2
      have hlen : (M1.fold ((l.drop (i - wd.length)).take wd.length)).length = wd.length := by
        unfold M1.fold
        rw [List.length_map, List.length_take, List.length_drop]
        omega
      obtain ⟨t, ht⟩ := h2
      exact (List.append_inj' ht (by rw [hlen])).2.symm
  unfold Hit
  rw [hx]
  constructor
  · rintro ⟨h1, h2, h3⟩
    refine ⟨h1, ?_⟩
    simpa [Nat.sub_add_cancel hw] using h3
  · rintro ⟨h1, h3⟩
    exact ⟨h1, by omega, by simpa [Nat.sub_add_cancel hw] using h3⟩
theorem fold_snoc (l : List UInt8) (i : Nat) (h : i < l.length) : M1.fold (l.take (i + 1)) = M1.fold (l.take i) ++ [M1.small l[i]] := by
  unfold M1.fold
  rw [List.take_succ_eq_append_getElem h, List.map_append]
  rfl
theorem low_fold (l : List UInt8) : Low (M1.fold l) := by
  intro x hx
  unfold M1.fold at hx
  obtain ⟨y, _, rfl⟩ := List.mem_map.1 hx
  exact M1.small_small y
end Go.Proofs.YteefodibpjgicaaGreat.Kmp

namespace Go.Proofs.YteefodibpjgicaaGreat.M5
def keepT (t : Tok) : List Tok := if t.kind ≠ 0 then [t] else []
theorem endN_le (nm l : List UInt8) : endN nm l ≤ l.length := by
  unfold endN
  cases h : endsL ([60, 47] ++ nm) l with
  | none => exact Nat.le_refl _
  | some k =>
    show k ≤ l.length
    generalize [60, 47] ++ nm = wd at h
    induction l generalizing k with
    | nil => cases h
    | cons c r ih =>
      by_cases h0 : Kmp.Hit wd (c :: r) 0
      · rw [(Kmp.ends_cons wd c r).1 h0] at h
        cases h
        exact Nat.zero_le _
      · rw [(Kmp.ends_cons wd c r).2 h0] at h
        cases hr : endsL wd r with
        | none => rw [hr] at h; cases h
        | some j =>
          rw [hr] at h
          have := ih j hr
          have h' : j + 1 = k := by simpa using h
          simp only [List.length_cons]
          omega
theorem rawT_raw (t : Tok) (l : List UInt8) (h : t.kind = 1 ∧ M3.rawB t.name.data.toList = true) :
    rawT t l = (keepT (contC (endN t.name.data.toList l) l), l.drop (endN t.name.data.toList l)) := by
  rw [rawT, if_pos h]
  congr 1
  have hle := endN_le t.name.data.toList l
  generalize endN t.name.data.toList l = n at *
  unfold contC keepT asIs
  by_cases hz : n = 0
  · subst hz
    rw [if_pos rfl]
    rfl
  · rw [if_neg hz, if_neg, if_pos (show (3 : Int) ≠ 0 by decide)]
    rw [Bool.not_eq_true, List.isEmpty_eq_false_iff]
    intro e
    have := congrArg List.length e
    rw [List.length_take, List.length_nil] at this
    omega
theorem rawT_not (t : Tok) (l : List UInt8) (h : ¬ (t.kind = 1 ∧ M3.rawB t.name.data.toList = true)) : rawT t l = ([], l) := by rw [rawT, if_neg h]
theorem round_raw (l : List UInt8) (h : startsB l = true) (hr : (tagR l).1.kind = 1 ∧ M3.rawB (tagR l).1.name.data.toList = true) :
    toksR [] l = keepT (tagR l).1 ++ (keepT (contC (endN (tagR l).1.name.data.toList (tagR l).2) (tagR l).2) ++ toksR [] ((tagR l).2.drop (endN (tagR l).1.name.data.toList (tagR l).2))) := by
  rw [toks_tag l h, rawT_raw _ _ hr]
  rfl
theorem round_tag (l : List UInt8) (h : startsB l = true) (hr : ¬ ((tagR l).1.kind = 1 ∧ M3.rawB (tagR l).1.name.data.toList = true)) :
    toksR [] l = keepT (tagR l).1 ++ toksR [] (tagR l).2 := by
  rw [toks_tag l h, rawT_not _ _ hr, List.nil_append]
  rfl
end Go.Proofs.YteefodibpjgicaaGreat.M5

namespace Go.Proofs.YteefodibpjgicaaGreat.M5
open M1 (isB)
def R (l : List UInt8) : Prop := isB l = true
theorem R.nil : R [] := M1.isB_nil
theorem text_pre : ∀ (rs : List Int) (p : List UInt8) (c : UInt8) (rest : List UInt8), M2.okT rs → M1.text rs = p ++ c :: rest → c.toNat < 128 → ∃ rs2, M2.okT rs2 ∧ p = M1.text rs2
  | [], p, c, rest, _, h, _ => by simp [M1.text] at h
  | r :: rs, p, c, rest, ho, h, hc => by
    have hor := ho r (by simp)
    have ho' : M2.okT rs := fun x hx => ho x (by simp [hx])
    rw [M1.text_cons] at h
    rcases Nat.lt_or_ge p.length (M1.enc r).length with hl | hl
    · by_cases hr : 128 ≤ r
      · exfalso
        have h1 : (M1.enc r)[p.length]? = some c := by
          have := congrArg (fun l => l[p.length]?) h
          simp only [List.getElem?_append_left hl] at this
          rw [this]
          simp
        have := M2.enc_high r hor.1 hr c (List.mem_of_getElem? h1)
        omega
      · have h00 : 0 ≤ r := by
          have := hor.1
          unfold M1.okRune at this
          omega
        have e := M2.enc_low r h00 (by omega)
        rw [e] at h hl
        have hl1 : p.length < 1 := hl
        have hp : p = [] := List.eq_nil_of_length_eq_zero (by omega)
        exact ⟨[], by simp [M2.okT], hp⟩
    · have h1 : p = M1.enc r ++ p.drop (M1.enc r).length := by
        have := congrArg (List.take (M1.enc r).length) h
        rw [List.take_left, List.take_append_of_le_length hl] at this
        conv => lhs; rw [← List.take_append_drop (M1.enc r).length p]
        rw [← this]
      rw [h1, List.append_assoc] at h
      obtain ⟨rs2, h2, h3⟩ := text_pre rs _ c rest ho' (List.append_cancel_left h) hc
      refine ⟨r :: rs2, fun x hx => ?_, by rw [M1.text_cons, ← h3]; exact h1⟩
      rcases List.mem_cons.1 hx with rfl | hx
      · exact hor
      · exact h2 x hx
theorem R.tail {a : List UInt8} {c : UInt8} {r : List UInt8} (h : R (a ++ c :: r)) (hc : c.toNat < 128) : R r := by
  obtain ⟨rs, ho, e⟩ := (M2.right_iff _).1 h
  obtain ⟨rs2, h1, h2⟩ := M2.text_cut rs a c r ho e.symm hc
  exact (M2.right_iff _).2 ⟨rs2, h1, h2⟩
theorem R.head {a : List UInt8} {c : UInt8} {r : List UInt8} (h : R (a ++ c :: r)) (hc : c.toNat < 128) : R a := by
  obtain ⟨rs, ho, e⟩ := (M2.right_iff _).1 h
  obtain ⟨rs2, h1, h2⟩ := text_pre rs a c r ho e.symm hc
  exact (M2.right_iff _).2 ⟨rs2, h1, h2⟩
theorem R.drop1 {c : UInt8} {r : List UInt8} (h : R (c :: r)) (hc : c.toNat < 128) : R r := R.tail (a := []) h hc
theorem isB_one (c : UInt8) (t : List UInt8) (h : c.toNat < 128) (h0 : c.toNat ≠ 0) (h13 : c.toNat ≠ 13) (ht : R t) : R (c :: t) := by
  obtain ⟨rs, ho, e⟩ := (M2.right_iff _).1 ht
  obtain ⟨rs2, h1, h2⟩ := M2.low_text [c] (fun x hx => by
    rw [List.mem_singleton] at hx
    subst hx
    exact ⟨h, fun e => h0 (by rw [e]; rfl), fun e => h13 (by rw [e]; rfl)⟩)
  refine (M2.right_iff _).2 ⟨rs2 ++ rs, fun x hx => ?_, by rw [M1.text_append, ← h2, ← e]; rfl⟩
  rcases List.mem_append.1 hx with hx | hx
  · exact h1 x hx
  · exact ho x hx
theorem R.mid {a : List UInt8} {c : UInt8} {r : List UInt8} (h : R (a ++ c :: r)) (hc : c.toNat < 128) : R (c :: r) := by
  obtain ⟨rs, ho, e⟩ := (M2.right_iff _).1 h
  have ht := h.tail hc
  refine isB_one c r hc (fun h0 => ?_) (fun h0 => ?_) ht
  all_goals
    have key : ∀ rs : List Int, M2.okT rs → ∀ x ∈ M1.text rs, x.toNat ≠ 0 ∧ x.toNat ≠ 13 := by
      intro rs
      induction rs with
      | nil => intro _ x hx; simp [M1.text] at hx
      | cons q rs ih =>
        intro ho x hx
        rw [M1.text_cons] at hx
        have hq := ho q (by simp)
        rcases List.mem_append.1 hx with hx | hx
        · by_cases hr : 128 ≤ q
          · have := M2.enc_high q hq.1 hr x hx
            omega
          · have h00 : 0 ≤ q := by
              have := hq.1
              unfold M1.okRune at this
              omega
            rw [M2.enc_low q h00 (by omega), List.mem_singleton] at hx
            have e1 : x.toNat = q.toNat := by
              rw [hx]
              have : q.toNat < 256 := by omega
              simp [Nat.toUInt8]
              omega
            have := hq.2
            omega
        · exact ih (fun y hy => ho y (by simp [hy])) x hx
    have := key rs ho c (by rw [← e]; simp)
    omega
theorem R.drops {q : UInt8 → Bool} (hq : ∀ c, q c = true → c.toNat < 128) {l : List UInt8} (h : R l) : R (l.dropWhile q) := by
  induction l with
  | nil => exact h
  | cons c r ih =>
    rw [List.dropWhile_cons]
    split
    · rename_i hc
      exact ih (h.drop1 (hq c hc))
    · exact h
theorem R.upto {q : UInt8 → Bool} (hq : ∀ c, q c = false → c.toNat < 128) {l : List UInt8} (h : R l) : R (l.takeWhile q) ∧ R (l.dropWhile q) := by
  have e := List.takeWhile_append_dropWhile (p := q) (l := l)
  cases hd : l.dropWhile q with
  | nil =>
    rw [hd, List.append_nil] at e
    exact ⟨by rw [e]; exact h, R.nil⟩
  | cons c r =>
    have hc : q c = false := by
      have h1 := List.head?_dropWhile_not q l
      rw [hd] at h1
      simpa using h1
    rw [hd] at e
    have h2 : R (l.takeWhile q ++ c :: r) := by rw [e]; exact h
    exact ⟨h2.head (hq c hc), h2.mid (hq c hc)⟩
theorem small_lt {c : UInt8} (h : 128 ≤ c.toNat) : M1.small c = c := by
  unfold M1.small
  rw [if_neg]
  omega
theorem small_ok (c : UInt8) (h : c.toNat < 128) (h0 : c.toNat ≠ 0) (h13 : c.toNat ≠ 13) : (M1.small c).toNat < 128 ∧ (M1.small c).toNat ≠ 0 ∧ (M1.small c).toNat ≠ 13 := by
  unfold M1.small
  split
  · have : (c + 32).toNat = c.toNat + 32 := by rw [UInt8.toNat_add]; have : (32 : UInt8).toNat = 32 := rfl; omega
    omega
  · exact ⟨h, h0, h13⟩
theorem R.fold {l : List UInt8} (h : R l) : R (M1.fold l) := by
  obtain ⟨rs, ho, rfl⟩ := (M2.right_iff _).1 h
  clear h
  induction rs with
  | nil => exact R.nil
  | cons q rs ih =>
    have ih := ih (fun y hy => ho y (by simp [hy]))
    have hq := ho q (by simp)
    rw [M1.text_cons]
    unfold M1.fold at *
    rw [List.map_append]
    by_cases hr : 128 ≤ q
    · have e : (M1.enc q).map M1.small = M1.enc q := by
        have hh := M2.enc_high q hq.1 hr
        generalize M1.enc q = l at *
        clear ih
        induction l with
        | nil => rfl
        | cons c l ih => rw [List.map_cons, small_lt (hh c (by simp)), ih (fun x hx => hh x (by simp [hx]))]
      rw [e]
      obtain ⟨rs2, h1, h2⟩ := (M2.right_iff _).1 ih
      refine (M2.right_iff _).2 ⟨q :: rs2, fun x hx => ?_, by rw [M1.text_cons, h2]⟩
      rcases List.mem_cons.1 hx with rfl | hx
      · exact hq
      · exact h1 x hx
    · have h00 : 0 ≤ q := by
        have := hq.1
        unfold M1.okRune at this
        omega
      rw [M2.enc_low q h00 (by omega)]
      have e1 : (q.toNat.toUInt8).toNat = q.toNat := by
        have : q.toNat < 256 := by omega
        simp [Nat.toUInt8]
        omega
      have := hq.2
      obtain ⟨a1, a2, a3⟩ := small_ok q.toNat.toUInt8 (by omega) (by omega) (by omega)
      exact isB_one _ _ a1 a2 a3 ih
end Go.Proofs.YteefodibpjgicaaGreat.M5

namespace Go.Proofs.YteefodibpjgicaaGreat.M5
theorem small_cases (c : UInt8) : (65 ≤ c.toNat ∧ c.toNat ≤ 90 ∧ (M1.small c).toNat = c.toNat + 32) ∨ (¬ (65 ≤ c.toNat ∧ c.toNat ≤ 90) ∧ M1.small c = c) := by
  unfold M1.small
  split
  · rename_i h
    have : (c + 32).toNat = c.toNat + 32 := by rw [UInt8.toNat_add]; have : (32 : UInt8).toNat = 32 := rfl; omega
    exact .inl ⟨h.1, h.2, this⟩
  · rename_i h
    exact .inr ⟨h, rfl⟩
theorem letter_small {c : UInt8} (h : letterB c = true) : M3.smallB (M1.small c) = true := by
  unfold letterB at h
  unfold M3.smallB
  rw [Bool.or_eq_true, decide_eq_true_iff, decide_eq_true_iff] at h
  rw [decide_eq_true_iff]
  rcases small_cases c with ⟨h1, h2, h3⟩ | ⟨h1, h2⟩
  · omega
  · rw [h2]; omega
theorem name_small {c : UInt8} (h : nameB c = true) : M3.nameB (M1.small c) = true := by
  unfold nameB at h
  rw [Bool.or_eq_true, Bool.or_eq_true] at h
  unfold M3.nameB
  rw [Bool.or_eq_true]
  rcases h with (h | h) | h
  · exact .inl (letter_small h)
  · right
    have h := of_decide_eq_true h
    rcases small_cases c with ⟨h1, h2, h3⟩ | ⟨h1, h2⟩
    · omega
    · rw [h2]; exact decide_eq_true (by omega)
  · right
    rw [beq_iff_eq.1 h]
    decide
theorem name_lo {c : UInt8} (h : nameB c = true) : c.toNat < 128 := by
  unfold nameB letterB at h
  rw [Bool.or_eq_true, Bool.or_eq_true, Bool.or_eq_true, decide_eq_true_iff, decide_eq_true_iff, decide_eq_true_iff] at h
  rcases h with ((h | h) | h) | h
  · omega
  · omega
  · omega
  · rw [beq_iff_eq.1 h]; decide
theorem blank_lo {c : UInt8} (h : blankB c = true) : c.toNat < 128 := by
  unfold blankB at h
  simp only [Bool.or_eq_true, beq_iff_eq] at h
  rcases h with ((h | h) | h) | h <;> (rw [h]; decide)
theorem over_lo {c : UInt8} (h : overB c = true) : c.toNat < 128 := by
  unfold overB at h
  rw [Bool.or_eq_true, Bool.or_eq_true, beq_iff_eq, beq_iff_eq] at h
  rcases h with (h | h) | h
  · exact blank_lo h
  · rw [h]; decide
  · rw [h]; decide
theorem stop_lo {c : UInt8} (h : keyB c = false) : c.toNat < 128 := by
  unfold keyB stopB at h
  have h : (blankB c || c == 47 || c == 62 || c == 61) = true := by
    revert h
    cases (blankB c || c == 47 || c == 62 || c == 61)
    · intro h; cases h
    · intro _; rfl
  rw [Bool.or_eq_true, Bool.or_eq_true, Bool.or_eq_true, beq_iff_eq, beq_iff_eq, beq_iff_eq] at h
  rcases h with ((h | h) | h) | h
  · exact blank_lo h
  · rw [h]; decide
  · rw [h]; decide
  · rw [h]; decide
theorem bare_lo {c : UInt8} (h : bareB c = false) : c.toNat < 128 := by
  unfold bareB at h
  have h : (blankB c || c == 62) = true := by
    revert h
    rw [bne]
    cases blankB c <;> cases (c == 62) <;> simp
  rw [Bool.or_eq_true, beq_iff_eq] at h
  rcases h with h | h
  · exact blank_lo h
  · rw [h]; decide
theorem key_small {c : UInt8} (h : keyB c = true) : M3.capB (M1.small c) = false ∧ M3.badB (M1.small c) = false := by
  unfold keyB stopB blankB at h
  simp only [Bool.not_eq_true', Bool.or_eq_false_iff, beq_eq_false_iff_ne] at h
  obtain ⟨⟨⟨⟨⟨⟨b9, b10⟩, b12⟩, b32⟩, b47⟩, b62⟩, b61⟩ := h
  have key : ∀ d : UInt8, c ≠ d → c.toNat ≠ d.toNat := fun d hd e => hd (UInt8.toNat_inj.1 e)
  have c9 : c.toNat ≠ 9 := key 9 b9
  have c10 : c.toNat ≠ 10 := key 10 b10
  have c12 : c.toNat ≠ 12 := key 12 b12
  have c32 : c.toNat ≠ 32 := key 32 b32
  have c47 : c.toNat ≠ 47 := key 47 b47
  have c62 : c.toNat ≠ 62 := key 62 b62
  have c61 : c.toNat ≠ 61 := key 61 b61
  have hn : ¬ (65 ≤ (M1.small c).toNat ∧ (M1.small c).toNat ≤ 90) ∧ (M1.small c).toNat ≠ 9 ∧ (M1.small c).toNat ≠ 10 ∧ (M1.small c).toNat ≠ 12 ∧ (M1.small c).toNat ≠ 32 ∧ (M1.small c).toNat ≠ 47 ∧ (M1.small c).toNat ≠ 62 ∧ (M1.small c).toNat ≠ 61 := by
    rcases small_cases c with ⟨h1, h2, h3⟩ | ⟨h1, h2⟩
    · omega
    · rw [h2]; exact ⟨h1, c9, c10, c12, c32, c47, c62, c61⟩
  obtain ⟨a0, a1, a2, a3, a4, a5, a6, a7⟩ := hn
  constructor
  · unfold M3.capB
    exact decide_eq_false a0
  · unfold M3.badB
    simp only [Bool.or_eq_false_iff, beq_eq_false_iff_ne]
    exact ⟨⟨⟨⟨⟨⟨a1, a2⟩, a3⟩, a4⟩, a5⟩, a6⟩, a7⟩
theorem key_named (c : UInt8) (r : List UInt8) (h : R (c :: r)) (hk : keyB c = true) : M3.attributedB (M1.fold ((c :: r).takeWhile keyB)) = true := by
  have hR := (R.upto (q := keyB) (fun _ h => stop_lo h) h).1.fold
  have hall : ∀ x ∈ M1.fold ((c :: r).takeWhile keyB), M3.capB x = false ∧ M3.badB x = false := fun x hx => by
    unfold M1.fold at hx
    obtain ⟨y, hy, rfl⟩ := List.mem_map.1 hx
    have h1 := List.all_takeWhile (p := keyB) (l := c :: r)
    exact key_small (List.all_eq_true.1 h1 y hy)
  have hne : (M1.fold ((c :: r).takeWhile keyB)).isEmpty = false := by
    rw [List.takeWhile_cons, hk, if_pos rfl]
    rfl
  generalize M1.fold ((c :: r).takeWhile keyB) = l at *
  unfold M3.attributedB
  have hR : M1.isB l = true := hR
  rw [hne, hR, List.any_eq_false.2 (fun x hx => by simpa using (hall x hx).1), List.any_eq_false.2 (fun x hx => by simpa using (hall x hx).2)]
  rfl
theorem attC_name (l : List UInt8) : (attC l).1.name = bs (M1.fold (l.takeWhile keyB)) := by unfold attC; split <;> rfl
theorem R.quote {q : UInt8} (hq : q.toNat < 128) {t : List UInt8} (h : R t) : R ((t.dropWhile (· != q)).drop 1) := by
  have h1 := (R.upto (q := (· != q)) (fun c hc => by
    have : c = q := by simpa using hc
    rw [this]; exact hq) h).2
  have h2 := List.head?_dropWhile_not (· != q) t
  cases hd : t.dropWhile (· != q) with
  | nil => exact R.nil
  | cons c r =>
    rw [hd] at h1 h2
    have hc : c = q := by simpa using h2
    exact h1.drop1 (by rw [hc]; exact hq)
theorem R.val {l : List UInt8} (h : R l) : R (valC l).2 := by
  cases l with
  | nil => exact R.nil
  | cons q t =>
    rw [valC]
    split
    · rename_i hq
      have hq : q.toNat < 128 := by rcases hq with rfl | rfl <;> decide
      exact R.quote hq (h.drop1 hq)
    · exact (R.upto (q := bareB) (fun _ h => bare_lo h) h).2
theorem R.att {l : List UInt8} (h : R l) : R (attC l).2 := by
  have h1 : R ((l.dropWhile keyB).dropWhile blankB) := R.drops (fun _ h => blank_lo h) (R.upto (q := keyB) (fun _ h => stop_lo h) h).2
  by_cases hx : ∃ r, (l.dropWhile keyB).dropWhile blankB = 61 :: r
  · obtain ⟨r, hx⟩ := hx
    rw [attC_61 l r hx]
    rw [hx] at h1
    exact R.val (R.drops (fun _ h => blank_lo h) (h1.drop1 (by decide)))
  · rw [attC_ne l (fun r e => hx ⟨r, e⟩)]
    exact h1
def AttOk5 (N : Nat) (l : List Att) : Prop := (∀ a ∈ l, M3.attributedB a.name.data.toList = true ∧ a.name.size ≤ N) ∧ l.Pairwise (fun a b => a.name ≠ b.name)
theorem AttOk5.add {N : Nat} {l : List Att} {a : Att} (h : AttOk5 N l) (ha : M3.attributedB a.name.data.toList = true ∧ a.name.size ≤ N) : AttOk5 N (addT l a) := by
  unfold addT
  split
  · exact h
  · rename_i hn
    refine ⟨fun b hb => ?_, List.pairwise_append.2 ⟨h.2, List.pairwise_singleton _ _, fun b hb c hc e => ?_⟩⟩
    · rcases List.mem_append.1 hb with hb | hb
      · exact h.1 b hb
      · rw [List.mem_singleton] at hb; subst hb; exact ha
    · rw [List.mem_singleton] at hc
      subst hc
      exact hn (List.any_eq_true.2 ⟨b, hb, M3.eqB_iff.2 e⟩)
theorem atts_shape (N : Nat) : ∀ (n : Nat) (l : List UInt8) (acc as_ : List Att) (r : List UInt8), l.length ≤ n → l.length ≤ N → R l → AttOk5 N acc → attsR l acc = some (as_, r) → AttOk5 N as_ ∧ R r := by
  intro n
  induction n with
  | zero =>
    intro l acc as_ r hn _ _ _ h
    have : l = [] := List.eq_nil_of_length_eq_zero (by omega)
    subst this
    rw [attsR_nil] at h
    cases h
  | succ n ih =>
    intro l acc as_ r hn hN hR ha h
    rw [atts_over] at h
    have hR1 : R (l.dropWhile overB) := R.drops (fun _ h => over_lo h) hR
    have hle := (List.dropWhile_suffix (l := l) overB).length_le
    cases hd : l.dropWhile overB with
    | nil => rw [hd, attsR_nil] at h; cases h
    | cons c t =>
      have ho := over_head l c t hd
      rw [hd] at h hR1 hle
      by_cases h62 : c = 62
      · subst h62
        rw [attsR_cons, if_pos rfl] at h
        cases h
        exact ⟨ha, hR1.drop1 (by decide)⟩
      · have hlt := attC_lt c t ho h62
        rw [atts_one c t acc ho h62] at h
        have hk : keyB c = true := by
          unfold keyB stopB
          unfold overB at ho
          have : (c == 62) = false := beq_eq_false_iff_ne.2 h62
          rw [this]
          revert ho
          cases blankB c <;> cases (c == 47) <;> cases (c == 61) <;> simp
        exact ih _ _ _ _ (by omega) (by omega) hR1.att (ha.add ⟨by rw [attC_name, bs_data]; exact key_named c t hR1 hk, Nat.le_trans (attC_name_le (c :: t)) (by omega)⟩) h
theorem valueOf_own (l : List Att) (h : l.Pairwise (fun a b => a.name ≠ b.name)) : ∀ a ∈ l, M3.valueOf a.name l = some a.value := by
  induction l with
  | nil => intro a ha; exact (nomatch ha)
  | cons b r ih =>
    intro a ha
    obtain ⟨h1, h2⟩ := List.pairwise_cons.1 h
    rw [M3.valueOf]
    rcases List.mem_cons.1 ha with rfl | ha
    · rw [if_pos (M3.eqB_iff.2 rfl)]
    · rw [if_neg (fun e => h1 a ha (M3.eqB_iff.1 e))]
      exact ih h2 a ha
def ShapeT (N : Nat) (t : Tok) : Prop :=
  ((t.kind = 1 ∨ t.kind = 2) ∧ (M3.namedB t.name.data.toList = true ∧ t.name.size ≤ N) ∧ t.text = ⟨#[]⟩ ∧ (t.kind = 2 → t.attrs = []) ∧ AttOk5 N t.attrs) ∨
    ((t.kind = 3 ∨ t.kind = 4) ∧ t.name = ⟨#[]⟩ ∧ t.attrs = [] ∧ (t.kind = 3 → t.text.size ≠ 0))
theorem named_tw (d : UInt8) (r : List UInt8) (h : letterB d = true) : M3.namedB (M1.fold ((d :: r).takeWhile nameB)) = true := by
  have hn : nameB d = true := by unfold nameB; rw [h]; rfl
  rw [List.takeWhile_cons, hn, if_pos rfl]
  unfold M1.fold
  rw [List.map_cons]
  show (M3.smallB (M1.small d) && _) = true
  rw [letter_small h, Bool.true_and, List.all_eq_true]
  intro x hx
  obtain ⟨y, hy, rfl⟩ := List.mem_map.1 hx
  exact name_small (List.all_eq_true.1 (List.all_takeWhile (p := nameB) (l := r)) y hy)
theorem fold_size {p : UInt8 → Bool} (l : List UInt8) : (bs (M1.fold (l.takeWhile p))).size ≤ l.length := by
  show (M1.fold (l.takeWhile p)).toArray.size ≤ _
  rw [List.size_toArray, M1.fold, List.length_map]
  exact (List.takeWhile_prefix (l := l) p).length_le
theorem find_at (w l : List UInt8) (h : findL w l < l.length) : ∃ b, l.drop (findL w l) = w ++ b := by
  induction l with
  | nil => simp at h
  | cons c r ih =>
    rw [findL] at h ⊢
    split
    · rename_i hp
      obtain ⟨b, hb⟩ := List.isPrefixOf_iff_prefix.1 hp
      exact ⟨b, hb.symm⟩
    · rename_i hp
      rw [if_neg hp] at h
      exact ih (by simpa using h)
theorem R.find {w w0 : List UInt8} {x : UInt8} (hw : w = w0 ++ [x]) (hx : x.toNat < 128) {l : List UInt8} (h : R l) (hf : findL w l < l.length) : R (l.drop (findL w l + w.length)) := by
  obtain ⟨b, hb⟩ := find_at w l hf
  have e := List.take_append_drop (findL w l) l
  rw [hb, hw, List.append_assoc, ← List.append_assoc] at e
  have e2 : l.drop (findL w l + w.length) = b := by rw [← List.drop_drop, hb, List.drop_left]
  rw [e2]
  have h : R ((l.take (findL (w0 ++ [x]) l) ++ w0) ++ x :: b) := by
    subst hw
    rw [← e] at h
    exact h
  exact R.tail h hx
theorem R.uptoR {w w0 : List UInt8} {x : UInt8} (hw : w = w0 ++ [x]) (hx : x.toNat < 128) {l : List UInt8} (h : R l) : R (M5.uptoR w l).2 := by
  unfold M5.uptoR
  split
  · rename_i hf
    exact R.find hw hx h hf
  · exact R.nil
theorem starts_facts {c d : UInt8} {r : List UInt8} (h : startsB (c :: d :: r) = true) : c = 60 ∧ (letterB d = true ∨ d = 33 ∨ d = 63 ∨ d = 47) := by
  have h : (c == 60 && (letterB d || d == 33 || d == 63 || d == 47)) = true := h
  rw [Bool.and_eq_true, Bool.or_eq_true, Bool.or_eq_true, Bool.or_eq_true, beq_iff_eq, beq_iff_eq, beq_iff_eq, beq_iff_eq] at h
  obtain ⟨h1, ((h | h) | h) | h⟩ := h
  · exact ⟨h1, .inl h⟩
  · exact ⟨h1, .inr (.inl h)⟩
  · exact ⟨h1, .inr (.inr (.inl h))⟩
  · exact ⟨h1, .inr (.inr (.inr h))⟩
theorem tag_shape (N : Nat) (l : List UInt8) (hN : l.length ≤ N) (hs : startsB l = true) (h : R l) : R (tagR l).2 ∧ ((tagR l).1.kind ≠ 0 → ShapeT N (tagR l).1) := by
  match l, hN, hs, h with
  | [], _, hs, _ => cases hs
  | [c], _, hs, _ => cases hs
  | c :: d :: r, hN, hs, h =>
    have hN : r.length + 2 ≤ N := hN
    obtain ⟨rfl, hd⟩ := starts_facts hs
    have h1 : R (d :: r) := h.drop1 (by decide)
    have hdl : d.toNat < 128 := by
      rcases hd with hd | rfl | rfl | rfl
      · exact name_lo (by unfold nameB; rw [hd]; rfl)
      · decide
      · decide
      · decide
    have h2 : R r := h1.drop1 hdl
    unfold tagR
    rw [if_pos hs]
    show R (if letterB d then _ else _ : Tok × List UInt8).2 ∧ ((if letterB d then _ else _ : Tok × List UInt8).1.kind ≠ 0 → ShapeT N (if letterB d then _ else _ : Tok × List UInt8).1)
    by_cases hl : letterB d = true
    · rw [if_pos hl, begin_eq]
      have e : (60 :: d :: r).drop 1 = d :: r := rfl
      rw [e]
      have h3 : R ((d :: r).dropWhile nameB) := R.drops (fun _ h => name_lo h) h1
      cases ha : attsR ((d :: r).dropWhile nameB) [] with
      | none => exact ⟨R.nil, fun h => absurd rfl h⟩
      | some p =>
        obtain ⟨as_, q⟩ := p
        obtain ⟨g1, g2⟩ := atts_shape N _ _ [] as_ q (Nat.le_refl _) (Nat.le_trans (List.dropWhile_suffix (l := d :: r) nameB).length_le (by show r.length + 1 ≤ N; omega)) h3 ⟨fun a h => (nomatch h), List.Pairwise.nil⟩ ha
        exact ⟨g2, fun _ => .inl ⟨.inl rfl, ⟨by rw [bs_data]; exact named_tw d r hl, Nat.le_trans (fold_size (p := nameB) (d :: r)) (by show r.length + 1 ≤ N; omega)⟩, rfl, fun h => absurd h (show ¬ (1 : Int) = 2 by decide), g1⟩⟩
    · rw [if_neg hl]
      split
      · rename_i hp
        obtain ⟨b, hb⟩ := List.isPrefixOf_iff_prefix.1 hp
        have h4 : R ((60 :: d :: r).drop 4) := by
          rw [← hb] at h ⊢
          exact R.tail (a := [60, 33, 45]) h (by decide)
        exact ⟨R.uptoR (w0 := [45, 45]) rfl (by decide) h4, fun _ => .inr ⟨.inr rfl, rfl, rfl, fun h => absurd h (show ¬ (4 : Int) = 3 by decide)⟩⟩
      · split
        · rename_i hp
          obtain ⟨b, hb⟩ := List.isPrefixOf_iff_prefix.1 hp
          have h4 : R ((60 :: d :: r).drop 3) := by
            rw [← hb] at h ⊢
            exact R.tail (a := [60, 47]) h (by decide)
          exact ⟨h4, fun h => absurd rfl h⟩
        · split
          · rename_i hx
            split
            · rename_i hf
              have h5 : R (r.drop (findL [62] r + 1)) := R.find (w := [62]) (w0 := []) rfl (by decide) h2 hf
              refine ⟨h5, fun _ => .inl ⟨.inr rfl, ⟨?_, Nat.le_trans (fold_size (p := nameB) r) (by omega)⟩, rfl, fun _ => rfl, fun a h => (nomatch h), List.Pairwise.nil⟩⟩
              rw [bs_data]
              cases r with
              | nil => exact (nomatch hx.2)
              | cons x t => exact named_tw x t (Option.some.inj hx.2)
            · exact ⟨R.nil, fun h => absurd rfl h⟩
          · exact ⟨R.uptoR (w0 := []) rfl (by decide) h2, fun _ => .inr ⟨.inr rfl, rfl, rfl, fun h => absurd h (show ¬ (4 : Int) = 3 by decide)⟩⟩
theorem small_lt60 {c : UInt8} (h : M1.small c = 60) : c = 60 := by
  rcases small_cases c with ⟨h1, h2, h3⟩ | ⟨h1, h2⟩
  · rw [h] at h3
    have : (60 : UInt8).toNat = 60 := rfl
    omega
  · rw [← h2]; exact h
theorem ends_two (w : List UInt8) (c : UInt8) (r : List UInt8) : ∃ e : Bool, endsL w (c :: r) = if (M1.fold ((c :: r).take w.length) == w && e) = true then some 0 else (endsL w r).map (· + 1) := ⟨_, by rw [endsL]⟩
theorem ends_at (nm : List UInt8) : ∀ (l : List UInt8) (k : Nat), endsL ([60, 47] ++ nm) l = some k → ∃ r, l.drop k = 60 :: r := by
  intro l
  induction l with
  | nil => intro k h; cases h
  | cons c r ih =>
    intro k h
    obtain ⟨e, he⟩ := ends_two ([60, 47] ++ nm) c r
    rw [he] at h
    by_cases hc : (M1.fold ((c :: r).take ([60, 47] ++ nm).length) == [60, 47] ++ nm && e) = true
    · rw [if_pos hc] at h
      cases h
      rw [Bool.and_eq_true] at hc
      have h1 := beq_iff_eq.1 hc.1
      have h2 : M1.small c = 60 := by
        have := congrArg List.head? h1
        exact Option.some.inj this
      exact ⟨r, by rw [List.drop_zero, small_lt60 h2]⟩
    · rw [if_neg hc] at h
      cases hk : endsL ([60, 47] ++ nm) r with
      | none => rw [hk] at h; cases h
      | some j =>
        rw [hk] at h
        cases h
        obtain ⟨t, ht⟩ := ih j hk
        exact ⟨t, by rw [List.drop_succ_cons]; exact ht⟩
theorem R.drop_at {l r : List UInt8} {k : Nat} (h : R l) (hd : l.drop k = 60 :: r) : R (l.drop k) := by
  have e := List.take_append_drop k l
  rw [hd] at e ⊢
  rw [← e] at h
  exact h.mid (by decide)
theorem R.ends {nm l : List UInt8} (h : R l) : R (l.drop (endN nm l)) := by
  unfold endN
  cases hk : endsL ([60, 47] ++ nm) l with
  | none =>
    show R (l.drop l.length)
    rw [List.drop_length]
    exact R.nil
  | some k =>
    obtain ⟨r, hr⟩ := ends_at nm l k hk
    exact h.drop_at hr
theorem decode_ne (l : List UInt8) (h : l ≠ []) : M2.decode l ≠ [] := by
  cases l with
  | nil => exact absurd rfl h
  | cons c t =>
    cases ho : M2.one (c :: t) with
    | none => rw [M2.decode_byte ho]; exact List.cons_ne_nil _ _
    | some p =>
      obtain ⟨r, n⟩ := p
      rw [M2.decode_ref ho]
      intro e
      have h1 := congrArg List.length e
      have h2 := M2.enc_len_le r
      rw [List.length_append] at h1
      simp only [List.length_nil] at h1
      omega
theorem R.plain {l : List UInt8} (h : R l) : R (l.drop (plainN l)) := by
  cases hd : l.drop (plainN l) with
  | nil => exact R.nil
  | cons c r =>
    have hs := plain_starts l (by rw [hd]; exact List.cons_ne_nil _ _)
    obtain ⟨q, hq⟩ := starts_head _ hs
    rw [← hd]
    exact h.drop_at hq
end Go.Proofs.YteefodibpjgicaaGreat.M5

namespace Go.Proofs.YteefodibpjgicaaGreat
open Go.RowKit
theorem sizeB7 : (Tryz.prog.info? 120).map (·.size) = some 2 := by kernel_rfl
theorem infoU87 : (Tryz.prog.info? 5).map (fun i => (i.zero, i.size, i.bytes)) = some (some (.int .u8 0), 1, 1) := by kernel_rfl
theorem bxLen (g : Nat) (a : Option Addr) (n cap : Nat) (w : World) (h1 : w.cell? ⟨g, 2, none⟩ = some (.slice a n cap)) :
    Calls Tryz.prog 208 #[.pointer (some ⟨g, 1, none⟩)] w fun e w' => e = .returned (.int .i64 (n : Int)) ∧ w = w' := by
  go_enter Tryz.func208, Tryz.ntmps208
  go_wp2_with fail
  go_ret
  exact ⟨rfl, rfl⟩
theorem bxReset (g : Nat) (c0 p v c3 : Value) (w : World) (hb : Box w g 193 [c0, p, v, c3]) :
    Calls Tryz.prog 200 #[.pointer (some ⟨g, 1, none⟩)] w fun e w' => e = .returned (.tuple #[]) ∧ w' = (w.setCell ⟨g, 1, none⟩ (.pointer none)).setCell ⟨g, 2, none⟩ (.slice none 0 0) := by
  have k1 := hb.cell (i := 1) rfl
  have k2 := hb.cell (i := 2) rfl
  have fz := hb.free
  go_enter Tryz.func200, Tryz.ntmps200
  go_wp2_with fail
  go_end0
  exact ⟨rfl, rfl⟩
set_option maxHeartbeats 2000000 in
set_option maxRecDepth 100000 in
theorem bxCheck (g : Nat) (c0 p v c3 : Value) (w : World) (hb : Box w g 193 [c0, p, v, c3]) (hp : p = .pointer none ∨ p = .pointer (some ⟨g, 1, none⟩)) :
    Calls Tryz.prog 114 #[.pointer (some ⟨g, 1, none⟩)] w fun e w' => e = .returned (.tuple #[]) ∧ Box w' g 193 [c0, .pointer (some ⟨g, 1, none⟩), v, c3] ∧ (w' = w ∨ w' = w.setCell ⟨g, 1, none⟩ (.pointer (some ⟨g, 1, none⟩))) := by
  obtain ⟨j, hj, hjs⟩ := Option.map_eq_some_iff.1 sizeB7
  have k1 := hb.cell (i := 1) rfl
  have fz := hb.free
  have hsh : w.shape? g = some (193, 4) := by unfold World.shape?; rw [hb]; rfl
  have hb' := hb.set 1 (.pointer (some ⟨g, 1, none⟩))
  rcases hp with rfl | rfl
  · go_enter Tryz.func114, Tryz.ntmps114
    go_wp2
    rw [Lib.run_to_unsafe w ⟨g, 1, none⟩ Tryz.underlying118 Tryz.underlying131 hj (by rw [hjs]; decide) hsh (by show (1:Nat) < 4; omega)]
    simp only [Result.andThen]
    rw [Oper.upon_value]
    go_wp2
    rw [run_callFunc_extern Tryz.func122 (by kernel_rfl) (by kernel_rfl) (by kernel_rfl) (e := Extern.AbiNoEscape.same) (by kernel_rfl)]
    rw [Lib.run_noEscape]
    simp only [Result.andThen]
    rw [Oper.upon_value]
    go_wp2
    rw [Lib.run_from_unsafe w ⟨g, 1, none⟩ Tryz.underlying131 Tryz.underlying118 hj hsh (by kernel_rfl)]
    simp only [Result.andThen]
    rw [Oper.upon_value]
    go_wp2
    go_end0
    exact ⟨rfl, hb', .inr rfl⟩
  · go_enter Tryz.func114, Tryz.ntmps114
    go_wp2
    rw [Lib.run_neq_ptr_same w _ Tryz.underlying118 hj]
    go_wp2
    go_end0
    exact ⟨rfl, hb, .inl rfl⟩
def Turned (g : Nat) (r : Option Nat) (w w' : World) : Prop := w'.os = w.os ∧ w'.tape = w.tape ∧ w'.output = w.output ∧ w.heap.size ≤ w'.heap.size ∧ ∀ b, b < w.heap.size → b ≠ g → r ≠ some b → w'.heap[b]? = w.heap[b]?
theorem wpList_appS {P : Program} {ops : Array Oper} {rest : List Oper} {o : Oper} {a : Act} {Q : Exit → Act → World → Prop} (w : World) (hgd : o.guard = none) (sl x : Operand) (t u : TypeId)
    (ho : o.op = .call { callee := .builtin .append, args := #[sl, x], argTypes := #[t, u] })
    (e : TypeId) (ht : P.underlying t = some (.slice e)) (hu : P.underlying u = some .string) (hinfo : (P.info? e).map (fun i => (i.zero, i.size, i.bytes)) = some (some (.int .u8 0), 1, 1))
    (v : Value) (n : Nat) (xs : List Value) (hs : a.eval sl = v) (hown : w.ownsRowF 0 e 1 v n xs) (s : ByteArray) (hx : a.eval x = .string s) (hbytes : n + s.size ≤ 140737488355328)
    (h : ∀ v' w', w'.ownsRowF 0 e 1 v' (n + s.size) (xs ++ Lib.strCells s) → w.grownBy w' v.ownBlock → (∀ c, v'.ownBlock = some c → v.ownBlock = some c ∨ w.heap.size ≤ c) → wpList P ops Q rest (a.put o.dst v') w') : wpList P ops Q (o :: rest) a w := by
  obtain ⟨i, hi, hz, hsize, hby⟩ := info_parts hinfo
  refine wpList_plain hgd fun K hK => ?_
  have h63 : n + s.size ≤ maxLen := by unfold maxLen; omega
  obtain ⟨v', w', hr, h2, h3, _⟩ := Lib.run_append_own_stringF (P := P) w 0 t u o.type e i ht hu hi hz hsize hby v n xs hown s h63 hbytes (Nat.zero_le _)
  have hat : ∀ c, v'.ownBlock = some c → v.ownBlock = some c ∨ w.heap.size ≤ c := by
    intro c hc
    rcases hown.2 with ⟨rfl, rfl⟩ | ⟨g, cap, cur, fz, rfl, _, hg, hfz, hnc, hcm, hcs, htake⟩
    · obtain ⟨v'', w'', hr', h2', _⟩ := Lib.run_append_own_stringF (P := P) w w.heap.size t u o.type e i ht hu hi hz hsize hby (.slice none 0 0) 0 xs ⟨hown.1, .inl ⟨rfl, rfl⟩⟩ s h63 hbytes (Nat.le_refl _)
      have e1 := hr.symm.trans hr'
      injection e1 with e1 e2
      subst e1
      exact .inr (h2'.lt c hc).1
    · by_cases hroom : n + s.size ≤ cap
      · have hr' := Lib.run_append_room_stringF (P := P) w t u o.type e i ht hu hi hsize g n cap cur fz hg (by simpa using hfz) s hroom (by omega)
        have e1 := hr.symm.trans hr'
        injection e1 with e1 e2
        subst e1
        exact .inl hc
      · have hxl : xs.length = n := by simpa using hown.1
        have holds : ∀ j u, xs[j]? = some u → w.cell? ((⟨g, 0, none⟩ : Addr).add j) = some u := hown.cells (g := g) rfl
        have hr' := Lib.run_append_grow_string (P := P) w t u o.type e i (.int .u8 0) ht hu hi hz ⟨g, 0, none⟩ n cap xs (by rw [hsize]; simpa using hxl) holds s (by omega) (by unfold maxLen at h63; omega) (by rw [hby]; exact growslice_fits (by omega) (by omega))
        have e1 := hr.symm.trans hr'
        injection e1 with e1 e2
        subst e1
        have : w.heap.size = c := by simpa [Value.ownBlock] using hc
        exact .inr (by omega)
  unfold Oper.wp execOp
  simp only [ho, resolve, invoke, builtin, Sem.run_bind, Sem.run_pure, Result.andThen_ok, List.map_toArray, List.map_cons, List.map_nil, hs, hx, hr]
  exact hK _ _ (h v' w' h2 h3 hat)
set_option maxHeartbeats 4000000 in
set_option maxRecDepth 100000 in
theorem bxWrite (g : Nat) (c0 p v c3 : Value) (tx : List UInt8) (s : ByteArray) (w : World) (hb : Box w g 193 [c0, p, v, c3]) (hp : p = .pointer none ∨ p = .pointer (some ⟨g, 1, none⟩)) (hown : w.ownsRowF 0 5 1 v tx.length (u8s tx)) (hne : v.ownBlock ≠ some g) (hlen : tx.length + s.size ≤ 140737488355328) :
    Calls Tryz.prog 106 #[.pointer (some ⟨g, 1, none⟩), .string s] w fun e w' => e = .returned (.tuple #[.int .i64 s.size, .nilIface]) ∧ ∃ v', Box w' g 193 [c0, .pointer (some ⟨g, 1, none⟩), v', c3] ∧ w'.ownsRowF 0 5 1 v' (tx ++ s.data.toList).length (u8s (tx ++ s.data.toList)) ∧ (∀ c, v'.ownBlock = some c → v.ownBlock = some c ∨ w.heap.size ≤ c) ∧ Turned g v.ownBlock w w' := by
  obtain ⟨i0, hi, hz0, hz1, hz2⟩ := info_parts infoU87
  have hgl := hb.lt
  obtain ⟨av, cv, rfl⟩ : ∃ a c, v = .slice a tx.length c := by
    rcases hown.2 with ⟨rfl, h0⟩ | ⟨g', cap, cur, fz, rfl, _⟩
    · exact ⟨none, 0, by rw [h0]⟩
    · exact ⟨_, _, rfl⟩
  go_enter Tryz.func106, Tryz.ntmps106
  go_wp2_with (go_at_call 114; refine (bxCheck g c0 p _ c3 _ hb hp).mono ?_)
  rintro e w1 ⟨rfl, hb1, hw1⟩
  have hT1 : w1.os = w.os ∧ w1.tape = w.tape ∧ w1.output = w.output ∧ w1.heap.size = w.heap.size ∧ ∀ b, b ≠ g → w1.heap[b]? = w.heap[b]? := by
    rcases hw1 with rfl | rfl
    · exact ⟨rfl, rfl, rfl, rfl, fun _ _ => rfl⟩
    · exact ⟨rfl, rfl, rfl, by simp, fun b hb => Below.heap_setCell _ _ _ _ hb⟩
  have hown1 : w1.ownsRowF 0 5 1 (.slice av tx.length cv) tx.length (u8s tx) := by
    refine ⟨hown.1, ?_⟩
    rcases hown.2 with h | ⟨g', cap, cur, fz, e, h1, h2, h3⟩
    · exact .inl h
    · refine .inr ⟨g', cap, cur, fz, e, h1, ?_, h3⟩
      rw [hT1.2.2.2.2 g' (fun e2 => hne (by rw [e, e2]; rfl))]
      exact h2
  clear hw1
  have k2 := hb1.cell (i := 2) rfl
  go_wp2_with (at_builtin; refine wpList_appS _ rfl _ _ 22 9 rfl 5 Tryz.underlying22 Tryz.underlying9 infoU87 _ _ _ rfl hown1 s rfl hlen ?_)
  intro v' w2 hown' hgrow hat
  have hb2 : Box w2 g 193 [c0, .pointer (some ⟨g, 1, none⟩), .slice av tx.length cv, c3] := hb1.keep (hgrow.block g hb1.lt (fun e => hne e.symm))
  have d2 := hb2.cell (i := 2) rfl
  have f1 := hb2.free
  obtain ⟨ao, n', cap, rfl⟩ : ∃ ao n' cap, v' = .slice ao n' cap := by
    rcases hown'.2 with ⟨hv, _⟩ | ⟨g, cap, cur, fz, hv, _⟩
    · exact ⟨_, _, _, hv⟩
    · exact ⟨_, _, _, hv⟩
  have hb3 := hb2.set 2 (.slice ao n' cap)
  have hgl1 := hb1.lt
  have hv' : ∀ c, (Value.slice ao n' cap).ownBlock = some c → (Value.slice av tx.length cv).ownBlock = some c ∨ w.heap.size ≤ c := fun c hc => by
    have h := hat c hc
    have e := hT1.2.2.2.1
    rcases h with h | h
    · exact .inl h
    · exact .inr (by omega)
  have hne' : (Value.slice ao n' cap).ownBlock ≠ some g := fun e => by
    rcases hv' g e with h | h
    · exact hne h
    · omega
  have hown3 : (w2.setCell ⟨g, 2, none⟩ (.slice ao n' cap)).ownsRowF 0 5 1 (.slice ao n' cap) (tx ++ s.data.toList).length (u8s (tx ++ s.data.toList)) := by
    have e1 : (tx ++ s.data.toList).length = tx.length + s.size := by rw [List.length_append]; rfl
    have e2 : u8s (tx ++ s.data.toList) = u8s tx ++ Lib.strCells s := by rw [u8s_append]; rfl
    rw [e1, e2]
    exact hown'.kept (row := some g) ⟨rfl, rfl, rfl, by simp, fun k _ hk => Below.heap_setCell _ _ _ _ (fun e => hk (by rw [e]))⟩ (Or.inr hne')
  have hT : Turned g (Value.slice av tx.length cv).ownBlock w (w2.setCell ⟨g, 2, none⟩ (.slice ao n' cap)) := by
    refine ⟨hgrow.os.trans hT1.1, hgrow.tape.trans hT1.2.1, hgrow.output.trans hT1.2.2.1, ?_, fun b hb hbg hbr => ?_⟩
    · have := hgrow.size
      simp
      rw [hT1.2.2.2.1] at this
      exact this
    · rw [Below.heap_setCell _ _ _ _ hbg, hgrow.block b (by rw [hT1.2.2.2.1]; exact hb) (fun e => hbr e.symm), hT1.2.2.2.2 b hbg]
  clear hown hown1 hown' hgrow hat hb2 hb1
  replace hown3 := Lib.hid hown3
  replace hT := Lib.hid hT
  replace hb3 := Lib.hid hb3
  replace hv' := Lib.hid hv'
  go_wp2_with fail
  go_ret2
  exact ⟨rfl, _, hb3.out, hown3.out, hv'.out, hT.out⟩
set_option maxHeartbeats 4000000 in
set_option maxRecDepth 100000 in
theorem bxString (g : Nat) (c0 p v c3 : Value) (tx : List UInt8) (w : World) (hb : Box w g 193 [c0, p, v, c3]) (hown : w.ownsRowF 0 5 1 v tx.length (u8s tx)) (hne : v.ownBlock ≠ some g) (h0 : tx ≠ []) :
    Calls Tryz.prog 107 #[.pointer (some ⟨g, 1, none⟩)] w fun e w' => e = .returned (.string ⟨tx.toArray⟩) ∧ Box w' g 193 [c0, p, v, c3] ∧ w'.ownsRowF 0 5 1 v tx.length (u8s tx) ∧ Turned g v.ownBlock w w' ∧ w'.heap.size = w.heap.size := by
  have hl0 : tx.length ≠ 0 := by simpa using h0
  have hown0 := hown
  obtain ⟨k, cap, cur, fz, rfl, _, hg, hfz, hnc, hcm, hcs, htake⟩ : ∃ k cap cur fz, v = .slice (some ⟨k, 0, none⟩) tx.length cap ∧ 0 ≤ k ∧ w.heap[k]? = some (.cells cur 5 fz) ∧ fz.2 ≤ tx.length * 1 ∧ tx.length ≤ cap ∧ cap ≤ maxLen ∧ cur.size = cap * 1 ∧ cur.toList.take (tx.length * 1) = u8s tx := by
    rcases hown.2 with ⟨_, hz⟩ | ⟨k, cap, cur, fz, hv, r⟩
    · exact absurd hz hl0
    · exact ⟨k, cap, cur, fz, hv, r⟩
  have k2 : w.drew.cell? ⟨g, 2, none⟩ = some (.slice (some ⟨k, 0, none⟩) tx.length cap) := hb.cell (i := 2) rfl
  have hSD : (Builtin.unsafeSliceData_ #[22] 129 #[.slice (some ⟨k, 0, none⟩) tx.length cap]).run Tryz.prog w.drew = .ok (.pointer (some ⟨k, 0, none⟩)) w.drew :=
    Lib.run_unsafeSliceData_row _ _ _ _ _ _ (by omega)
  have hUS : (Builtin.unsafeString_ #[129, 3] 9 #[.pointer (some ⟨k, 0, none⟩), .int .i64 tx.length]).run Tryz.prog w.drew = .ok (.string ⟨tx.toArray⟩) (w.drew.freeze ⟨k, 0, none⟩ tx.length) := by
    refine Lib.run_unsafeString_row w.drew 129 3 9 5 Tryz.underlying129 (by kernel_rfl) k cur.size (by have hg' : w.drew.heap[k]? = some (.cells cur 5 fz) := hg; simp [World.shape?, hg']) tx h0 (by omega) (by unfold maxLen at hcm; omega) ?_
    intro j x hx
    have := hown.cells (g := k) rfl j (.int .u8 x.toNat) (by simp [u8s, Lib.byteCells, hx])
    exact this
  have hkg : k ≠ g := fun e => hne (by rw [e]; rfl)
  have hfr : ∀ b, b ≠ k → (w.drew.freeze ⟨k, 0, none⟩ tx.length).heap[b]? = w.heap[b]? := fun b hb => by
    have := (Lib.below_freeze (B := k) (Below.refl k w.drew) (p := ⟨k, 0, none⟩) (Nat.le_refl _) tx.length)
    unfold World.freeze
    split
    · rfl
    · simp only [Array.getElem?_modify]
      rw [if_neg (fun e => hb e.symm)]
      rfl
  have hsz : (w.drew.freeze ⟨k, 0, none⟩ tx.length).heap.size = w.heap.size := by
    unfold World.freeze
    split
    · rfl
    · simp
  have hkk : ∃ fz', (w.drew.freeze ⟨k, 0, none⟩ tx.length).heap[k]? = some (.cells cur 5 fz') ∧ fz'.2 ≤ tx.length * 1 := by
    have hg' : w.drew.heap[k]? = some (.cells cur 5 fz) := hg
    unfold World.freeze
    split
    · exact ⟨fz, hg', hfz⟩
    · simp only [Array.getElem?_modify, if_true, hg', Option.map_some]
      refine ⟨_, rfl, ?_⟩
      obtain ⟨lo, hi⟩ := fz
      simp only at hfz ⊢
      split
      · simp
      · simp; omega
  obtain ⟨fz', hk', hfz'⟩ := hkk
  have hB : Hid (Box (w.drew.freeze ⟨k, 0, none⟩ tx.length) g 193 [c0, p, .slice (some ⟨k, 0, none⟩) tx.length cap, c3]) := hb.keep (hfr g (fun e => hkg e.symm))
  have hO : Hid ((w.drew.freeze ⟨k, 0, none⟩ tx.length).ownsRowF 0 5 1 (.slice (some ⟨k, 0, none⟩) tx.length cap) tx.length (u8s tx)) := ⟨hown.1, .inr ⟨k, cap, cur, fz', rfl, Nat.zero_le _, hk', hfz', hnc, hcm, hcs, htake⟩⟩
  have hT : Hid (Turned g (Value.slice (some ⟨k, 0, none⟩) tx.length cap).ownBlock w (w.drew.freeze ⟨k, 0, none⟩ tx.length)) := by
    have hb := Lib.below_freeze (B := 0) (Below.drew (Below.refl 0 w)) (p := ⟨k, 0, none⟩) (Nat.zero_le _) tx.length
    exact ⟨hb.os, hb.tape, hb.output, hb.size, fun b _ _ hr => hfr b (fun e => hr (by rw [e]; rfl))⟩
  replace hsz := Lib.hid hsz
  clear hfr hk' hown hown0
  have mixed : Tryz.prog.follows Departure.mixedOrders = true := by kernel_rfl
  go_enter Tryz.func107, Tryz.ntmps107
  go_wp2
  go_region_o
  all_goals (go_wp2; go_ret; exact ⟨rfl, hB.out, hO.out, hT.out, hsz.out⟩)
end Go.Proofs.YteefodibpjgicaaGreat

namespace Go.Proofs.YteefodibpjgicaaGreat
namespace M3
theorem cat_data (s t : ByteArray) : (cat s t).data.toList = s.data.toList ++ t.data.toList := by simp [cat]
theorem nilB_data' (s : ByteArray) : nilB s = s.data.toList.isEmpty := by unfold nilB; rw [ByteArray.toList_eq]
theorem nilB_cat (s t : ByteArray) : nilB (cat s t) = (nilB s && nilB t) := by
  rw [nilB_data', nilB_data', nilB_data', cat_data]
  cases s.data.toList <;> cases t.data.toList <;> rfl
theorem withText_kind (x : Nd) (t : ByteArray) : (withText x t).kind = x.kind := by cases x; rfl
theorem withText_text (x : Nd) (t : ByteArray) : (withText x t).text = t := by cases x; rfl
theorem withText_kids (x : Nd) (t : ByteArray) : (withText x t).kids = x.kids := by cases x; rfl
theorem withText_attrs (x : Nd) (t : ByteArray) : (withText x t).attrs = x.attrs := by cases x; rfl
def isText (x : Nd) : Bool := x.kind == 2
def bareB (x : Nd) : Bool := isText x && nilB x.text
theorem bareB_iff {x : Nd} : bareB x = true ↔ x.kind = 2 ∧ nilB x.text = true := by simp [bareB, isText]
theorem push_bare {out : List Nd} {x : Nd} (h : bareB x = true) : push out x = out := by unfold push; rw [if_pos (bareB_iff.1 h)]
theorem push_none {x : Nd} (h : bareB x = false) : push [] x = [x] := by
  unfold push
  rw [if_neg (by rw [← bareB_iff]; simp [h])]
  rfl
theorem push_snoc {out : List Nd} {x y : Nd} (h : bareB x = false) : push (out ++ [y]) x = if isText x && isText y then out ++ [withText y (cat y.text x.text)] else out ++ [y] ++ [x] := by
  unfold push
  rw [if_neg (by rw [← bareB_iff]; simp [h])]
  simp [isText]
def apart : Bool → List Nd → Bool
  | _, [] => true
  | p, x :: r => !(isText x && (nilB x.text || p)) && apart (isText x) r
theorem apart_iff {p : Bool} {x : Nd} {r : List Nd} : apart p (x :: r) = true ↔ (isText x = true → nilB x.text = false ∧ p = false) ∧ apart (isText x) r = true := by
  rw [apart]
  cases isText x <;> cases nilB x.text <;> cases p <;> simp
theorem apart_weak {p : Bool} {l : List Nd} (h : apart p l = true) : apart false l = true := by
  cases l with
  | nil => rfl
  | cons x r => rw [apart_iff] at h ⊢; exact ⟨fun a => ⟨(h.1 a).1, rfl⟩, h.2⟩
theorem merge_apart (l : List Nd) : ∀ out : List Nd, (∀ y, out.getLast? = some y → apart (isText y) l = true) → apart false l = true → l.foldl push out = out ++ l := by
  induction l with
  | nil => intro out _ _; simp
  | cons x r ih =>
    intro out h1 h2
    rw [apart_iff] at h2
    have hx : bareB x = false := by
      rw [bareB]; cases ht : isText x
      · rfl
      · rw [(h2.1 ht).1]; rfl
    have hp : push out x = out ++ [x] := by
      rcases List.eq_nil_or_concat out with rfl | ⟨o, y, rfl⟩
      · rw [push_none hx]; rfl
      · rw [List.concat_eq_append] at h1 ⊢
        have h3 := h1 y (by simp)
        rw [apart_iff] at h3
        rw [push_snoc hx]
        have : (isText x && isText y) = false := by
          cases ht : isText x
          · rfl
          · rw [(h3.1 ht).2]; rfl
        rw [this]; simp
    rw [List.foldl_cons, hp, ih _ (fun y hy => by simp at hy; subst hy; exact h2.2) (apart_weak h2.2)]
    simp
def okP (x : Nd) : Prop := if isText x then plainB x = true ∧ M1.isB x.text.data.toList = true else oneE x false = 0 ∧ mayE false x.kids = 0
theorem isB_append {a b : List UInt8} (ha : M1.isB a = true) (hb : M1.isB b = true) : M1.isB (a ++ b) = true := by
  rw [← (M1.isB_right_iff a).1 ha, ← (M1.isB_right_iff b).1 hb]
  exact M1.isB_join a b
theorem okP_cat (x y : Nd) (hx : okP x) (hy : okP y) (h1 : isText x = true) (h2 : isText y = true) : okP (withText x (cat x.text y.text)) := by
  have ht : isText (withText x (cat x.text y.text)) = true := by rw [isText, withText_kind]; exact h1
  unfold okP at *
  rw [h1, if_pos rfl] at hx
  rw [h2, if_pos rfl] at hy
  rw [ht, if_pos rfl]
  refine ⟨?_, ?_⟩
  · have := hx.1; cases x; exact this
  · rw [withText_text, cat_data]; exact isB_append hx.2 hy.2
end M3
end Go.Proofs.YteefodibpjgicaaGreat

namespace Go.Proofs.YteefodibpjgicaaGreat
namespace M6
open M3 (isText okP withText cat merge apart mayE oneE nilB)
def closedL (o : List UInt8) : List (List UInt8) :=
  if o = [112] then [[98, 108, 111, 99, 107, 113, 117, 111, 116, 101], [100, 105, 118], [104, 49], [104, 50], [104, 114], [108, 105], [111, 108], [112], [112, 114, 101], [116, 97, 98, 108, 101], [117, 108]]
  else if o = [108, 105] then [[108, 105]]
  else if o = [100, 116] ∨ o = [100, 100] then [[100, 100], [100, 116]]
  else if o = [111, 112, 116, 105, 111, 110] then [[111, 112, 116, 105, 111, 110]]
  else if o = [116, 100] then [[116, 100], [116, 114]]
  else if o = [116, 114] then [[116, 114]] else []
def closesB (o b : List UInt8) : Bool := (closedL o).contains b
def endsHere (nm tx : List UInt8) : Bool := M5.endsL ([60, 47] ++ nm) (tx ++ ([60, 47] ++ nm ++ [62])) == some tx.length
def fitsB (p : ByteArray) (x : Nd) : Bool :=
  if M3.voidB p.data.toList then false else if M3.rawB p.data.toList then isText x && endsHere p.data.toList x.text.data.toList
  else !(decide (x.kind = 1) && closesB p.data.toList x.name.data.toList)
def hasB (w l : List UInt8) : Bool := decide (M5.findL w l < l.length)
def remB (x : Nd) : Bool := decide (x.kind = 3) && hasB [45, 45, 62] x.text.data.toList
def allB : List Nd → Bool
  | [] => true
  | .mk k n a t ks :: r => !remB (.mk k n a t ks) && (ks.all (fitsB n) && (allB ks && allB r))
termination_by l => SizeOf.sizeOf l
def oneS (x : Nd) : Bool := !remB x && (x.kids.all (fitsB x.name) && allB x.kids)
theorem allB_nil : allB [] = true := by rw [allB]
theorem allB_cons (x : Nd) (r : List Nd) : allB (x :: r) = (oneS x && allB r) := by
  cases x
  rw [allB]
  unfold oneS
  show (_ && (_ && (_ && _))) = ((_ && (_ && _)) && _)
  simp only [Bool.and_assoc]
  rfl
theorem allB_iff {l : List Nd} : allB l = true ↔ ∀ x ∈ l, oneS x = true := by
  induction l with
  | nil => rw [allB_nil]; exact ⟨fun _ x h => (nomatch h), fun _ => rfl⟩
  | cons x r ih => rw [allB_cons, Bool.and_eq_true, ih]; simp
theorem ok_of_may (l : List Nd) : ∀ p, mayE p l = 0 → (∀ x ∈ l, okP x) ∧ apart p l = true := by
  induction l with
  | nil => intro p _; exact ⟨fun x h => (nomatch h), rfl⟩
  | cons x r ih =>
    intro p h
    rw [M3.mayE_cons] at h
    by_cases h1 : oneE x p = 0
    · rw [if_neg (by simpa using h1)] at h
      by_cases h2 : mayE false x.kids = 0
      · rw [if_neg (by simpa using h2)] at h
        obtain ⟨i1, i2⟩ := ih _ h
        have key : okP x ∧ (isText x = true → nilB x.text = false ∧ p = false) := by
          unfold okP
          cases ht : isText x
          · have hk : ¬ x.kind = 2 := by simpa [isText] using ht
            refine ⟨?_, fun h => by cases h⟩
            rw [if_neg Bool.false_ne_true]
            refine ⟨?_, h2⟩
            unfold oneE at h1 ⊢
            rw [if_neg hk] at h1 ⊢
            exact h1
          · have hk : x.kind = 2 := by simpa [isText] using ht
            unfold oneE at h1
            rw [if_neg (by omega), if_pos hk] at h1
            split at h1
            · rename_i hp
              split at h1
              · rename_i hb
                rw [Bool.and_eq_true] at hb
                refine ⟨by rw [if_pos rfl]; exact ⟨hp, hb.1⟩, fun _ => ?_⟩
                have := hb.2
                revert this
                cases nilB x.text <;> cases p <;> simp
              · exact absurd h1 (by decide)
            · exact absurd h1 (by decide)
        refine ⟨fun y hy => ?_, M3.apart_iff.2 ⟨key.2, i2⟩⟩
        rcases List.mem_cons.1 hy with rfl | hy
        · exact key.1
        · exact i1 y hy
      · rw [if_pos (by simpa using h2)] at h
        exact absurd h h2
    · rw [if_pos (by simpa using h1)] at h
      exact absurd h h1
def stableB (l : List Nd) : Bool := decide (mayE false l = 0) && allB l
end M6
end Go.Proofs.YteefodibpjgicaaGreat

namespace Go.Proofs.YteefodibpjgicaaGreat
open Go.RowKit
theorem next_dec {P : Program} (w : World) (k : Nat) (s : ByteArray) (pos : Nat) (hk : w.heap[k]? = some (.stringIter s pos)) (h : pos < s.size) : ∀ ty,
    (Instr.next (.pointer (some ⟨k, 0, none⟩)) true ty).run P w =
      .ok (.tuple #[.bool true, .int .i64 pos, .int .i32 (M1.dec (s.data.toList.drop pos)).1]) (w.iterAt k s (pos + (M1.dec (s.data.toList.drop pos)).2)) := fun ty => by
  rw [Lib.run_next_any_at w k s pos ty hk h, M1.decode_eq]
theorem drop_ne {l : List UInt8} {k : Nat} (h : k < l.length) : l.drop k ≠ [] := by
  intro e
  have := congrArg List.length e
  simp at this
  omega
set_option maxHeartbeats 1000000 in
set_option maxRecDepth 100000 in
theorem utfRight (v : Value) (l : List UInt8) (w : World) (hs : Sl w v (u8s l)) (hl : l.length ≤ 1073741824) :
    Calls Tryz.prog 151 #[v] w fun e w' => e = .returned (.string ⟨(M1.right l).toArray⟩) ∧ Below w.heap.size w w' := by
  have hcv := (hs.below ((Below.refl _ w).alloc (Nat.le_refl _) (.cells #[.pointer none, .slice none 0 0] 120))).toString 22 9 5 Tryz.underlying22 Tryz.underlying5 Tryz.underlying9
  go_enter Tryz.func151, Tryz.ntmps151
  go_wp2
  go_loopw [4] (fun q wr => ∃ (pos : Nat) (p : Bool) (acc : List UInt8), q = .bool p ∧ Lib.IsBuilderF 120 5 w.heap.size w.heap.size (u8s acc) wr ∧ wr.heap[w.heap.size + 1]? = some (.stringIter ⟨l.toArray⟩ pos) ∧ Below w.heap.size w wr ∧ M1.right l = acc ++ M1.text (M1.mk p (M1.runes (l.drop pos))) ∧ acc.length ≤ 4 * pos ∧ pos ≤ l.length) (fun _ wr => l.length - wr.iterPos (w.heap.size + 1))
  case atStart =>
    refine ⟨0, false, [], rfl, (Lib.IsBuilderF.of (Lib.fresh_isBuilder 120 5 w)).alloc _, ?_, ((Below.refl _ w).alloc (Nat.le_refl _) _).alloc (by simp) _, rfl, by simp, by simp⟩
    have := World.iter_heap (w.alloc (.cells #[.pointer none, .slice none 0 0] 120)) ⟨l.toArray⟩ 0
    simpa using this
  case round =>
    obtain ⟨pos, p, acc, rfl, hI, hit, hbw, hacc0, hal, hpl⟩ := hrel
    have hsz : w.heap.size + 1 < wr.heap.size := (Array.getElem?_eq_some_iff.1 hit).1
    have hacc := Lib.hid hacc0
    clear hacc0 hcv
    by_cases hp : pos < l.length
    · have hne := drop_ne hp
      have hnx := next_dec (P := Tryz.prog) wr (w.heap.size + 1) ⟨l.toArray⟩ pos hit hp
      have hst0 := M1.runes_step _ hne
      have hw1 := M1.dec_pos _ hne
      have hw2 := M1.dec_le _ hne
      have hlt := M1.dec_lt (l.drop pos)
      rw [List.drop_drop] at hst0
      rw [List.length_drop] at hw2
      generalize (M1.dec (l.drop pos)).1 = r at *
      generalize (M1.dec (l.drop pos)).2 = wd at *
      have hst := Lib.hid hst0
      clear hst0
      have hI1 := hI.iterAt hit (pos + wd)
      have hbw1 := Lib.below_iterAt hbw (Nat.le_succ _) ⟨l.toArray⟩ (pos + wd)
      have hit1 := Lib.iterAt_heap wr (w.heap.size + 1) ⟨l.toArray⟩ pos (pos + wd) hit
      have hsz1 := Lib.iterAt_size wr (w.heap.size + 1) ⟨l.toArray⟩ (pos + wd)
      rw [← hsz1] at hsz
      clear hsz1 hI hbw
      generalize wr.iterAt (w.heap.size + 1) ⟨l.toArray⟩ (pos + wd) = w1 at *
      have hWR := fun (x : Int) (h1 : 0 ≤ x) (h2 : x < 1114112) => bWriteRune w.heap.size w.heap.size _ x (by omega) (by omega) _ hI1 (by rw [u8s_length]; omega) (by omega)
      have hWB := fun (x : Int) => bWriteByte w.heap.size w.heap.size _ x _ hI1 (by rw [u8s_length]; omega) (by omega)
      have hx0 : (0 : Int) ≤ (r : Int) := by omega
      have hx1 : (r : Int) < 1114112 := by omega
      clear hlt
      generalize (r : Int) = x at *
      have fin : ∀ (x p q) (add : List UInt8), M1.right l = acc ++ M1.text (M1.mk p (x :: M1.runes (l.drop (pos + wd)))) → M1.text (if x = 13 then [10] else if x = 10 ∧ p = true then [] else if x = 0 then [65533] else [x]) = add → decide (x = 13) = q → M1.right l = (acc ++ add) ++ M1.text (M1.mk q (M1.runes (l.drop (pos + wd)))) := by
        intro x p q add h1 h2 h3
        rw [h1, M1.mk, M1.text_append, h2, h3, List.append_assoc]
      have hfin := Lib.hid fin
      clear fin
      have hst := Lib.hid (show M1.right l = acc ++ M1.text (M1.mk p (x :: M1.runes (l.drop (pos + wd)))) by rw [hacc.out, hst.out])
      clear hacc
      by_cases h13 : x = 13
      · subst h13
        go_wp2_with (go_at_call 123; refine (hWB 10).mono ?_; rintro e W1 ⟨rfl, h1, b1, k1⟩)
        go_wp2
        go_roundw
        case rel =>
          exact ⟨pos + wd, true, acc ++ [10], rfl, by rw [u8s_append]; exact Or.inr h1, k1.iter hit1 (by omega), hbw1.trans b1, hfin.out _ _ _ _ hst.out rfl rfl, by simp; omega, by omega⟩
        case measure => rw [iterPos_of (k1.iter hit1 (by omega)), iterPos_of hit]; omega
      have h13b : (x == 13) = false := by simpa using h13
      by_cases h10 : x = 10
      · subst h10
        cases p
        · go_wp2_with (go_at_call 152; refine (hWR 10 (by omega) (by omega)).mono ?_; rintro e W1 ⟨rfl, h1, b1, k1⟩)
          go_wp2
          go_roundw
          case rel =>
            exact ⟨pos + wd, false, acc ++ [10], rfl, by rw [u8s_append]; exact Or.inr h1, k1.iter hit1 (by omega), hbw1.trans b1, hfin.out _ _ _ _ hst.out rfl rfl, by simp; omega, by omega⟩
          case measure => rw [iterPos_of (k1.iter hit1 (by omega)), iterPos_of hit]; omega
        · go_wp2
          go_roundw
          case rel =>
            exact ⟨pos + wd, false, acc, rfl, hI1, hit1, hbw1, by have := hfin.out _ _ _ [] hst.out rfl rfl; rwa [List.append_nil] at this, by omega, by omega⟩
          case measure => rw [iterPos_of hit1, iterPos_of hit]; omega
      have h10b : (x == 10) = false := by simpa using h10
      by_cases h0 : x = 0
      · subst h0
        go_wp2_with (go_at_call 152; refine (hWR 65533 (by omega) (by omega)).mono ?_; rintro e W1 ⟨rfl, h1, b1, k1⟩)
        go_wp2
        go_roundw
        case rel =>
          exact ⟨pos + wd, false, acc ++ [239, 191, 189], rfl, by rw [u8s_append]; exact Or.inr h1, k1.iter hit1 (by omega), hbw1.trans b1, hfin.out _ _ _ _ hst.out rfl rfl, by simp; omega, by omega⟩
        case measure => rw [iterPos_of (k1.iter hit1 (by omega)), iterPos_of hit]; omega
      have h0b : (x == 0) = false := by simpa using h0
      go_wp2_with (go_at_call 152; refine (hWR x (by omega) (by omega)).mono ?_; rintro e W1 ⟨rfl, h1, b1, k1⟩)
      go_wp2
      go_roundw
      case rel =>
        have hl4 := (Lib.encodeRuneZ_length x).2
        have e : (Lib.encodeRune x).length = (Lib.encodeRuneZ x).length := by simp [Lib.encodeRune]
        refine ⟨pos + wd, false, acc ++ Lib.encodeRune x, rfl, ?_, k1.iter hit1 (by omega), hbw1.trans b1, hfin.out _ _ _ _ hst.out ?_ (by simp [h13]), by simp; omega, by omega⟩
        · rw [u8s_append, show u8s (Lib.encodeRune x) = Lib.runeCells x from Lib.byteCells_encodeRune x]; exact Or.inr h1
        · rw [if_neg h13, if_neg (fun h => h10 h.1), if_neg h0]; simp [M1.text]
      case measure => rw [iterPos_of (k1.iter hit1 (by omega)), iterPos_of hit]; omega
    · have hnx := fun ty => Lib.run_next_end_at (P := Tryz.prog) wr (w.heap.size + 1) ⟨l.toArray⟩ pos ty hit hp
      go_wp2_with (go_at_call 107; refine (bString w.heap.size w.heap.size _ _ hI (by have := hbw.size; omega)).mono ?_; rintro e W1 ⟨rfl, _, b1, _⟩)
      go_wp2
      go_ret
      have h := hacc.out
      rw [List.drop_of_length_le (by omega), M1.runes_nil] at h
      rw [h]
      exact ⟨by simp [M1.mk, M1.text], hbw.trans b1⟩
set_option maxHeartbeats 1000000 in
theorem utfSmall (c : UInt8) (w : World) :
    Calls Tryz.prog 120 #[.int .u8 (c.toNat : Int)] w fun e w' => e = .returned (.int .u8 ((M1.small c).toNat : Int)) ∧ w' = w := by
  have h := M1.small_nat c
  have hc := c.toNat_lt
  generalize (M1.small c).toNat = m at *
  generalize c.toNat = n at *
  have hc : n < 256 := hc
  by_cases h0 : 65 ≤ n ∧ n ≤ 90
  · rw [if_pos h0] at h
    obtain ⟨h1, h2⟩ := h0
    subst h
    go_enter Tryz.func120, Tryz.ntmps120
    go_wp2
    go_ret
    refine ⟨?_, rfl⟩
    show Ending.returned (.int .u8 ((n : Int) - 65 + 97)) = _
    rw [show (n : Int) - 65 + 97 = ((n + 32 : Nat) : Int) by omega]
  · rw [if_neg h0] at h
    subst h
    go_enter Tryz.func120, Tryz.ntmps120
    go_wp2
    all_goals go_ret
    all_goals exact ⟨rfl, rfl⟩
def spelt3 (s : ByteArray) : Bool := s.data.toList.take 3 == [239, 191, 189]
set_option maxHeartbeats 1000000 in
set_option maxRecDepth 100000 in
theorem utfSpelt (s : ByteArray) (w : World) :
    Calls Tryz.prog 95 #[.string s] w fun e w' => e = .returned (.bool (spelt3 s)) ∧ w' = w := by
  go_enter Tryz.func95, Tryz.ntmps95
  go_wp2_with (go_at_call 104; refine (hasPrefix_any _ _ _).mono ?_; rintro e w1 ⟨rfl, rfl⟩)
  go_ret
  refine ⟨?_, rfl⟩
  rw [← Lib.hasPrefix_of_take]
  unfold spelt3
  by_cases h : s.data.toList.take 3 = [239, 191, 189]
  · have : 3 ≤ s.data.toList.length := by have := congrArg List.length h; rw [List.length_take] at this; simp at this; simp; omega
    simp [h]
    simpa using this
  · have : (s.data.toList.take 3 == [239, 191, 189]) = false := by simpa using h
    simp [this]
set_option maxHeartbeats 1000000 in
set_option maxRecDepth 100000 in
theorem utfPrefix (s p : ByteArray) (w : World) (hs : s.size ≤ 9223372036854775807) (hp : p.size ≤ 9223372036854775807) :
    Calls Tryz.prog 191 #[.string s, .string p] w fun e w' => e = .returned (.bool (M1.prefixB s.data.toList p.data.toList)) ∧ Below w.heap.size w w' := by
  by_cases hlen : s.size < p.size
  · have h := M1.prefixB_short s.data.toList p.data.toList hlen
    generalize M1.prefixB s.data.toList p.data.toList = q at *
    subst h
    go_enter Tryz.func191, Tryz.ntmps191
    go_wp2
    go_ret
    exact ⟨rfl, Below.refl _ _⟩
  · have hle : p.size ≤ s.size := by omega
    clear hlen
    go_enter Tryz.func191, Tryz.ntmps191
    go_wp2
    go_loopw [13] (fun i wr => ∃ k : Nat, k ≤ p.size ∧ i = .int .i64 k ∧ Below w.heap.size w wr ∧ Hid (M1.fold (s.data.toList.take k) = p.data.toList.take k)) (fun i _ => p.size - (intOf i).toNat)
    case atStart => exact ⟨0, by omega, rfl, Below.refl _ _, by simp [Hid, M1.fold]⟩
    case round =>
      obtain ⟨k, hk, rfl, hbw, hF⟩ := hrel
      by_cases hlt : k < p.size
      · have hls : k < s.size := by omega
        by_cases heq : M1.small s[k] = p[k]
        · have hb : (((M1.small s[k]).toNat : Int) != (p[k].toNat : Int)) = false := by rw [heq]; simp
          go_wp2
          go_quiet ((go_at_call 120; exact Calls.quiet_of_same (utfSmall _ _)))
          go_wp2
          go_roundw
          case rel =>
            refine ⟨k + 1, by omega, by go_num, below_drewN hbw _, ?_⟩
            show M1.fold _ = _
            have hF := hF.out
            have e1 : s.data.toList.take (k + 1) = s.data.toList.take k ++ [s[k]] := List.take_succ_eq_append_getElem (l := s.data.toList) hls
            have e2 : p.data.toList.take (k + 1) = p.data.toList.take k ++ [p[k]] := List.take_succ_eq_append_getElem (l := p.data.toList) hlt
            rw [e1, e2, ← hF, ← heq]
            simp [M1.fold]
          case measure => simp [intOf]; omega
        · have h := M1.prefixB_diff s.data.toList p.data.toList k hlt hls heq
          have hb : (((M1.small s[k]).toNat : Int) != (p[k].toNat : Int)) = true := by
            rw [bne_iff_ne]; intro h; exact heq (UInt8.toNat_inj.1 (by omega))
          have h := Lib.hid h
          clear heq
          go_wp2
          go_quiet ((go_at_call 120; exact Calls.quiet_of_same (utfSmall _ _)))
          go_wp2
          go_ret
          exact ⟨by rw [h.out]; rfl, below_drewN hbw _⟩
      · obtain rfl : k = p.size := by omega
        have hF := hF.out
        rw [List.take_of_length_le (l := p.data.toList) (show p.data.toList.length ≤ p.size from Nat.le_refl _)] at hF
        have h := M1.prefixB_yes s.data.toList p.data.toList hle hF
        have h := Lib.hid h
        clear hF
        go_wp2
        go_ret
        exact ⟨by rw [h.out]; rfl, hbw⟩
set_option maxHeartbeats 1000000 in
set_option maxRecDepth 100000 in
theorem utfFold (s : ByteArray) (w : World) (hs : s.size ≤ 140737488355328) :
    Calls Tryz.prog 111 #[.string s] w fun e w' => e = .returned (.string ⟨(M1.fold s.data.toList).toArray⟩) ∧ Below w.heap.size w w' := by
  have hcv := Lib.run_convert_string_bytes (P := Tryz.prog) w 9 22 5 s Tryz.underlying9 Tryz.underlying22 Tryz.underlying5
  have hcap := grownCap_ge w s.size 0 5
  have hcap2 := grownCap_le_maxLen w s.size 0 5 (by unfold maxLen; omega)
  unfold maxLen at hcap2
  have hM := MutRow.bytes w 5 s
  have hB := below_bytesWorld w 5 s
  have hz := Lib.bytesWorld_size w 5 s
  generalize grownCap w s.size 0 5 = cap at *
  generalize Lib.bytesWorld w 5 s = w0 at *
  have hz := Lib.hid hz
  go_enter Tryz.func111, Tryz.ntmps111
  go_wp2
  go_loopw [10] (fun i wr => ∃ k : Nat, k ≤ s.size ∧ i = .int .i64 k ∧ Below w.heap.size w wr ∧ MutRow wr w.heap.size (u8s (M1.foldTo s.data.toList k))) (fun i _ => s.size - (intOf i).toNat)
  case atStart => exact ⟨0, by omega, rfl, hB, by rw [M1.foldTo_zero]; exact hM⟩
  case round =>
    obtain ⟨k, hk, rfl, hbw, hR⟩ := hrel
    have hlen : (u8s (M1.foldTo s.data.toList k)).length ≤ s.size ∧ s.size ≤ (u8s (M1.foldTo s.data.toList k)).length := by
      have : s.data.toList.length = s.size := rfl
      rw [u8s_length, M1.foldTo_length]
      omega
    by_cases hlt : k < s.size
    · have hls : k < s.data.toList.length := hlt
      obtain ⟨hc, hf⟩ := hR.at (u8s_get _ _ _ (M1.foldTo_get _ k hls))
      have hset := hR.set (k := k) (by omega) (.int .u8 ((M1.small s.data.toList[k]).toNat : Int))
      rw [u8s_set, M1.foldTo_set _ k hls] at hset
      clear hR hlen
      generalize s.data.toList[k] = c at *
      go_wp2_with (go_at_call 120; refine (utfSmall _ _).mono ?_; rintro e w1 ⟨rfl, rfl⟩)
      go_roundw
      case rel => exact ⟨k + 1, by omega, by go_num, hbw.setCell (Nat.le_refl _) _, hset⟩
      case measure => simp [intOf]; omega
    · obtain rfl : k = s.size := by omega
      rw [M1.foldTo_all _ _ (show s.data.toList.length ≤ s.size from Nat.le_refl _)] at hR
      have hfl : (u8s (M1.fold s.data.toList)).length = s.size := by rw [u8s_length]; simp [M1.fold]
      have hsl := hR.sl (cap := cap) (by omega) hcap2
      rw [hfl] at hsl
      have hcv2 := hsl.toString 22 9 5 Tryz.underlying22 Tryz.underlying5 Tryz.underlying9
      clear hfl
      go_wp2
      go_ret
      exact ⟨rfl, hbw⟩
set_option maxHeartbeats 1000000 in
set_option maxRecDepth 100000 in
theorem utfIs (s : ByteArray) (w : World) (hs : s.size ≤ 9223372036854775807) :
    Calls Tryz.prog 77 #[.string s] w fun e w' => e = .returned (.bool (M1.isB s.data.toList)) ∧ Below w.heap.size w w' := by
  go_enter Tryz.func77, Tryz.ntmps77
  go_wp2
  go_loopw [] (fun wr => ∃ pos : Nat, pos ≤ s.size ∧ wr.heap[w.heap.size]? = some (.stringIter s pos) ∧ Below w.heap.size w wr ∧ Hid (M1.isB s.data.toList = M1.isB (s.data.toList.drop pos))) (fun wr => s.size - wr.iterPos w.heap.size)
  case atStart => exact ⟨0, by omega, World.iter_heap w s 0, (Below.refl _ w).alloc (Nat.le_refl _) _, rfl⟩
  case round =>
    obtain ⟨pos, hpl, hit, hbw, hB⟩ := hrel
    have hsz : w.heap.size < wr.heap.size := (Array.getElem?_eq_some_iff.1 hit).1
    by_cases hp : pos < s.size
    · have hp' : pos < s.data.toList.length := hp
      have hne := drop_ne hp'
      have hnx := next_dec (P := Tryz.prog) wr w.heap.size s pos hit hp
      have hst0 := M1.isB_step _ hne
      have hw1 := M1.dec_pos _ hne
      have hw2 := M1.dec_le _ hne
      have hlt := M1.dec_lt (s.data.toList.drop pos)
      rw [List.drop_drop] at hst0
      rw [List.length_drop, show s.data.toList.length = s.size from rfl] at hw2
      rw [← hB.out] at hst0
      generalize (M1.dec (s.data.toList.drop pos)).1 = r at *
      generalize (M1.dec (s.data.toList.drop pos)).2 = wd at *
      have hbw1 := Lib.below_iterAt hbw (Nat.le_refl _) s (pos + wd)
      have hit1 := Lib.iterAt_heap wr w.heap.size s pos (pos + wd) hit
      generalize wr.iterAt w.heap.size s (pos + wd) = w1 at *
      have hst := Lib.hid hst0
      clear hst0 hne hB
      by_cases h0 : r = 0
      · subst h0
        go_wp2
        go_ret
        exact ⟨by rw [hst.out]; rfl, hbw1⟩
      by_cases h13 : r = 13
      · subst h13
        go_wp2
        go_ret
        exact ⟨by rw [hst.out]; rfl, hbw1⟩
      have h0b : ((r : Int) == 0) = false := by simpa using h0
      have h13b : ((r : Int) == 13) = false := by simp; omega
      by_cases hf : r = 65533
      · subst hf
        have hq : ∃ q, spelt3 (s.extract pos s.size) = q ∧ Hid (M1.isB s.data.toList = (q && M1.isB (s.data.toList.drop (pos + wd)))) := by
          refine ⟨_, rfl, ?_⟩
          show _ = _
          rw [hst.out, spelt3, extract_end]
          simp
        obtain ⟨q, hq1, hq2⟩ := hq
        cases q
        · go_wp2_with (go_at_call 95; refine (utfSpelt _ _).mono ?_; rintro e w2 ⟨rfl, rfl⟩)
          go_ret
          exact ⟨by rw [hq2.out]; rfl, hbw1⟩
        · go_wp2_with (go_at_call 95; refine (utfSpelt _ _).mono ?_; rintro e w2 ⟨rfl, rfl⟩)
          go_roundw
          case rel => exact ⟨pos + wd, by omega, hit1, hbw1, hq2⟩
          case measure => rw [iterPos_of hit1, iterPos_of hit]; omega
      · have hfb : ((r : Int) == 65533) = false := by simp; omega
        have hB : Hid (M1.isB s.data.toList = M1.isB (s.data.toList.drop (pos + wd))) := by
          show _ = _
          rw [hst.out]; simp [h0, h13, hf]
        go_wp2
        go_roundw
        case rel => exact ⟨pos + wd, by omega, hit1, hbw1, hB⟩
        case measure => rw [iterPos_of hit1, iterPos_of hit]; omega
    · have hnx := fun ty => Lib.run_next_end_at (P := Tryz.prog) wr w.heap.size s pos ty hit hp
      go_wp2
      go_ret
      have h := hB.out
      rw [List.drop_of_length_le (show s.data.toList.length ≤ pos from by have : s.data.toList.length = s.size := rfl; omega), M1.isB_nil] at h
      exact ⟨by rw [h]; rfl, hbw⟩
end Go.Proofs.YteefodibpjgicaaGreat

namespace Go.Proofs.YteefodibpjgicaaGreat
open Go.Shelf
def Tryz.lays152_ren : Go.Shelf.Ren := ⟨fun | 152 => 124 | 137 => 128 | 119 => 129 | 224 => 130 | 225 => 131 | 217 => 132 | 266 => 133 | n => n, fun | 9 => 9 | 21 => 21 | 3 => 3 | 4 => 4 | 5 => 5 | 0 => 0 | 46 => 143 | n => n, fun | n => n⟩
theorem Tryz.lays152 : Go.Proofs.Lays.n152 Tryz.prog Tryz.lays152_ren := {
  mixed := by kernel_rfl
  f119 := Tryz.func129.trans (congrArg some (by kernel_rfl))
  f137 := Tryz.func128.trans (congrArg some (by kernel_rfl))
  f152 := Tryz.func124.trans (congrArg some (by kernel_rfl))
  f217 := Tryz.func132.trans (congrArg some (by kernel_rfl))
  f224 := Tryz.func130.trans (congrArg some (by kernel_rfl))
  f225 := Tryz.func131.trans (congrArg some (by kernel_rfl))
  f266 := Tryz.func133.trans (congrArg some (by kernel_rfl))
  t0 := Tryz.underlying0
  a0 := Tryz.isAgg0
  z0 := Tryz.sizeOf0
  v0 := Tryz.zeroValue0
  t3 := Tryz.underlying3
  a3 := Tryz.isAgg3
  z3 := Tryz.sizeOf3
  v3 := Tryz.zeroValue3
  t4 := Tryz.underlying4
  a4 := Tryz.isAgg4
  z4 := Tryz.sizeOf4
  v4 := Tryz.zeroValue4
  t5 := Tryz.underlying5
  a5 := Tryz.isAgg5
  z5 := Tryz.sizeOf5
  v5 := Tryz.zeroValue5
  t9 := Tryz.underlying9
  a9 := Tryz.isAgg9
  z9 := Tryz.sizeOf9
  v9 := Tryz.zeroValue9
  t21 := Tryz.underlying21
  a21 := Tryz.isAgg21
  z21 := Tryz.sizeOf21
  v21 := Tryz.zeroValue21
  t46 := Tryz.underlying143
  a46 := Tryz.isAgg143
  z46 := Tryz.sizeOf143
  v46 := Tryz.zeroValue143 }
open Go.RowKit Go.Lib in
theorem Tryz.strings_IndexRune_ascii (s : ByteArray) (r : Int) (w : World) (h0 : 0 ≤ r) (h1 : r < 128) :
    Calls Tryz.prog 124 #[.string s, .int .i32 r] w fun e w' => e = .returned (.int .i64 (Lib.indexByte s.data.toList r.toNat.toUInt8)) ∧ w' = w := Any.strings_IndexRune_ascii Tryz.lays152 s r w h0 h1
def Tryz.lays153_ren : Go.Shelf.Ren := ⟨fun | 153 => 121 | 152 => 124 | 226 => 125 | 227 => 126 | 228 => 127 | 137 => 128 | 119 => 129 | 224 => 130 | 225 => 131 | 217 => 132 | 266 => 133 | n => n, fun | 9 => 9 | 3 => 3 | 4 => 4 | 5 => 5 | 21 => 21 | 117 => 138 | 116 => 137 | 0 => 0 | 46 => 143 | 124 => 144 | n => n, fun | n => n⟩
theorem Tryz.lays153 : Go.Proofs.Lays.n153 Tryz.prog Tryz.lays153_ren := {
  mixed := by kernel_rfl
  f119 := Tryz.func129.trans (congrArg some (by kernel_rfl))
  f137 := Tryz.func128.trans (congrArg some (by kernel_rfl))
  f152 := Tryz.func124.trans (congrArg some (by kernel_rfl))
  f153 := Tryz.func121.trans (congrArg some (by kernel_rfl))
  f217 := Tryz.func132.trans (congrArg some (by kernel_rfl))
  f224 := Tryz.func130.trans (congrArg some (by kernel_rfl))
  f225 := Tryz.func131.trans (congrArg some (by kernel_rfl))
  f226 := Tryz.func125.trans (congrArg some (by kernel_rfl))
  f227 := Tryz.func126.trans (congrArg some (by kernel_rfl))
  f228 := Tryz.func127.trans (congrArg some (by kernel_rfl))
  f266 := Tryz.func133.trans (congrArg some (by kernel_rfl))
  t0 := Tryz.underlying0
  a0 := Tryz.isAgg0
  z0 := Tryz.sizeOf0
  v0 := Tryz.zeroValue0
  t3 := Tryz.underlying3
  a3 := Tryz.isAgg3
  z3 := Tryz.sizeOf3
  v3 := Tryz.zeroValue3
  t4 := Tryz.underlying4
  a4 := Tryz.isAgg4
  z4 := Tryz.sizeOf4
  v4 := Tryz.zeroValue4
  t5 := Tryz.underlying5
  a5 := Tryz.isAgg5
  z5 := Tryz.sizeOf5
  v5 := Tryz.zeroValue5
  t9 := Tryz.underlying9
  a9 := Tryz.isAgg9
  z9 := Tryz.sizeOf9
  v9 := Tryz.zeroValue9
  t21 := Tryz.underlying21
  a21 := Tryz.isAgg21
  z21 := Tryz.sizeOf21
  v21 := Tryz.zeroValue21
  t46 := Tryz.underlying143
  a46 := Tryz.isAgg143
  z46 := Tryz.sizeOf143
  v46 := Tryz.zeroValue143
  t116 := Tryz.underlying137
  a116 := Tryz.isAgg137
  z116 := Tryz.sizeOf137
  t117 := Tryz.underlying138
  a117 := Tryz.isAgg138
  z117 := Tryz.sizeOf138
  v117 := Tryz.zeroValue138
  t124 := Tryz.underlying144
  a124 := Tryz.isAgg144
  z124 := Tryz.sizeOf144
  v124 := Tryz.zeroValue144 }
open Go.RowKit Go.Lib in
theorem Tryz.strings_IndexAny_long (hv116 : ∀ w, (zeroValue 137).run Tryz.prog w = .ok (.agg (Array.replicate 256 (.bool false))) w) (s chars : ByteArray) (w : World) (h2 : 2 ≤ chars.size) (h8 : 8 < s.size) (hs : s.size < 4294967281) (hcs : chars.size < 4294967281) (hascii : ∀ (j : Nat) b, chars.data.toList[j]? = some b → b.toNat < 128) :
    Calls Tryz.prog 121 #[.string s, .string chars] w fun e w' => e = .returned (.int .i64 (Lib.indexAny s.data.toList chars.data.toList)) ∧ w' = ((w.alloc (.cells (Lib.setCells chars.data.toList) 137)).alloc (.cells (Lib.setCells chars.data.toList) 137)) := Any.strings_IndexAny_long Tryz.lays153 hv116 (by kernel_rfl) s chars w h2 h8 hs hcs hascii
end Go.Proofs.YteefodibpjgicaaGreat

namespace Go.Proofs.YteefodibpjgicaaGreat
open Go.RowKit
set_option maxHeartbeats 1000000 in
theorem domVoid (s : ByteArray) (w : World) : Calls Tryz.prog 116 #[.string s] w fun e w' => e = .returned (.bool (M3.voidB s.data.toList)) ∧ w' = w := by
  rw [← Lib.toList_data]
  go_enter Tryz.func116, Tryz.ntmps116
  go_wp2
  all_goals (go_ret; refine ⟨?_, rfl⟩; unfold M3.voidB; simp_all)
set_option maxHeartbeats 1000000 in
theorem ref03Void (s : ByteArray) (w : World) : Calls Tryz.prog 62 #[.string s] w fun e w' => e = .returned (.bool (M3.voidB s.data.toList)) ∧ w' = w := by
  rw [← Lib.toList_data]
  go_enter Tryz.func62, Tryz.ntmps62
  go_wp2
  all_goals (go_ret; refine ⟨?_, rfl⟩; unfold M3.voidB; simp_all)
set_option maxHeartbeats 1000000 in
theorem domRaw (s : ByteArray) (w : World) : Calls Tryz.prog 117 #[.string s] w fun e w' => e = .returned (.bool (M3.rawB s.data.toList)) ∧ w' = w := by
  rw [← Lib.toList_data]
  go_enter Tryz.func117, Tryz.ntmps117
  go_wp2
  all_goals (go_ret; refine ⟨?_, rfl⟩; unfold M3.rawB; simp_all)
set_option maxHeartbeats 1000000 in
theorem ref03Raw (s : ByteArray) (w : World) : Calls Tryz.prog 64 #[.string s] w fun e w' => e = .returned (.bool (M3.rawB s.data.toList)) ∧ w' = w := by
  rw [← Lib.toList_data]
  go_enter Tryz.func64, Tryz.ntmps64
  go_wp2
  all_goals (go_ret; refine ⟨?_, rfl⟩; unfold M3.rawB; simp_all)
set_option maxHeartbeats 1000000 in
theorem ref03Small (c : UInt8) (w : World) : Calls Tryz.prog 92 #[.int .u8 (c.toNat : Int)] w fun e w' => e = .returned (.bool (M3.smallB c)) ∧ w' = w := by
  by_cases h1 : 97 ≤ c.toNat
  · go_enter Tryz.func92, Tryz.ntmps92
    go_wp2
    go_ret
    exact ⟨by simp [M3.smallB, h1]; omega, rfl⟩
  · go_enter Tryz.func92, Tryz.ntmps92
    go_wp2
    all_goals (go_ret; exact ⟨by simp [M3.smallB, h1], rfl⟩)
set_option maxHeartbeats 4000000 in
set_option maxRecDepth 100000 in
theorem domNamed (s : ByteArray) (w : World) (hs : s.size ≤ 9223372036854775807) :
    Calls Tryz.prog 93 #[.string s] w fun e w' => e = .returned (.bool (M3.namedB s.data.toList)) ∧ Below w.heap.size w w' := by
  have hsz : s.size = s.data.toList.length := rfl
  have hemp : s.toList = s.data.toList := Lib.toList_data s
  generalize hl : s.data.toList = l at *
  go_enter Tryz.func93, Tryz.ntmps93
  go_wp2
  go_loopw [] (fun wr => ∃ p : Nat, p ≤ l.length ∧ wr.heap[w.heap.size]? = some (.stringIter s p) ∧ Below w.heap.size w wr ∧ Hid (M3.namedB l = M3.tailB l p)) (fun wr => l.length - wr.iterPos w.heap.size)
  case atStart => exact ⟨0, by omega, World.iter_heap w s 0, (Below.refl _ w).alloc (Nat.le_refl _) _, rfl⟩
  case round =>
    obtain ⟨p, hpl, hit, hbw, hB⟩ := hrel
    have hsz0 : w.heap.size < wr.heap.size := (Array.getElem?_eq_some_iff.1 hit).1
    by_cases hp : p < l.length
    · have hdr : l.drop p = l[p] :: l.drop (p + 1) := List.drop_eq_getElem_cons hp
      have hnx := next_dec (P := Tryz.prog) wr w.heap.size s p hit (by omega)
      rw [hl, hdr] at hnx
      have hlo := M2.dec_lo l[p] (l.drop (p + 1))
      have hhi := M2.dec_hi l[p] (l.drop (p + 1))
      have hlt := M1.dec_lt (l[p] :: l.drop (p + 1))
      have hno := Lib.hid (M3.tail_no hp)
      have hyes := Lib.hid (M3.tail_yes hp)
      generalize l[p] = c at *
      generalize M1.dec (c :: l.drop (p + 1)) = rw_ at *
      obtain ⟨r, wd⟩ := rw_
      simp only at hnx hhi hlt
      have hbw1 := Lib.below_iterAt hbw (Nat.le_refl _) s (p + wd)
      have hit1 := Lib.iterAt_heap wr w.heap.size s p (p + wd) hit
      generalize wr.iterAt w.heap.size s (p + wd) = w1 at *
      clear hdr
      rcases Nat.lt_or_ge c.toNat 128 with h1 | h1
      · have hrw := hlo h1
        simp only [Prod.mk.injEq] at hrw
        obtain ⟨rfl, rfl⟩ := hrw
        clear hlo hhi
        by_cases hok : M3.okR p (c.toNat : Int)
        · replace hyes := Lib.hid (hB.out.trans (hyes.out hok))
          clear hno hB
          have hok' := hok
          unfold M3.okR at hok'
          clear hok
          generalize c.toNat = r at *
          rcases hok' with ⟨h2, h3⟩ | ⟨h2, h3 | ⟨h3, h4⟩⟩
          · go_wp2
            go_roundw
            case rel => exact ⟨p + 1, by omega, hit1, hbw1, hyes⟩
            case measure => rw [iterPos_of hit1, iterPos_of hit]; omega
          · have h5 : ((p : Int) == 0) = false := by simpa using h2
            obtain rfl : r = 45 := by omega
            go_wp2
            go_roundw
            case rel => exact ⟨p + 1, by omega, hit1, hbw1, hyes⟩
            case measure => rw [iterPos_of hit1, iterPos_of hit]; omega
          · have h5 : ((p : Int) == 0) = false := by simpa using h2
            go_wp2
            go_roundw
            case rel => exact ⟨p + 1, by omega, hit1, hbw1, hyes⟩
            case measure => rw [iterPos_of hit1, iterPos_of hit]; omega
        · replace hno := Lib.hid (hB.out.trans (hno.out hok))
          clear hyes hB
          by_cases h2 : p = 0
          · subst h2
            have hok' : (c.toNat : Int) < 97 ∨ 122 < (c.toNat : Int) := by unfold M3.okR at hok; omega
            clear hok
            generalize c.toNat = r at *
            rcases hok' with h3 | h3
            · go_wp2
              go_ret
              exact ⟨by rw [hno.out]; rfl, hbw1⟩
            · have hd : decide ((r : Int) ≤ 122) = false := decide_eq_false (by omega)
              go_wp2
              go_ret
              exact ⟨by rw [hno.out]; rfl, hbw1⟩
          · have h5 : ((p : Int) == 0) = false := by simpa using h2
            have hok' : (c.toNat : Int) < 45 ∨ (45 < (c.toNat : Int) ∧ (c.toNat : Int) < 48) ∨ (57 < (c.toNat : Int) ∧ (c.toNat : Int) < 97) ∨ 122 < (c.toNat : Int) := by unfold M3.okR at hok; omega
            have h6 : ((c.toNat : Int) == 45) = false := by unfold M3.okR at hok; simp; omega
            clear hok h2
            generalize c.toNat = r at *
            rcases hok' with h3 | ⟨h3, h4⟩ | ⟨h3, h4⟩ | h3
            · go_wp2
              go_ret
              exact ⟨by rw [hno.out]; rfl, hbw1⟩
            · go_wp2
              go_ret
              exact ⟨by rw [hno.out]; rfl, hbw1⟩
            · go_wp2
              go_ret
              exact ⟨by rw [hno.out]; rfl, hbw1⟩
            · have hd : decide ((r : Int) ≤ 122) = false := decide_eq_false (by omega)
              have hd2 : decide ((r : Int) < 48) = false := decide_eq_false (by omega)
              have hd3 : decide (57 < (r : Int)) = true := decide_eq_true (by omega)
              go_wp2
              go_ret
              exact ⟨by rw [hno.out]; rfl, hbw1⟩
      · replace hno := Lib.hid (hB.out.trans (hno.out (by unfold M3.okR; omega)))
        replace hhi := hhi h1
        clear hyes hB hlo h1
        have hd : decide ((r : Int) ≤ 122) = false := decide_eq_false (by omega)
        have hd2 : decide ((r : Int) < 48) = false := decide_eq_false (by omega)
        have hd3 : decide (57 < (r : Int)) = true := decide_eq_true (by omega)
        by_cases h2 : p = 0
        · subst h2
          go_wp2
          go_ret
          exact ⟨by rw [hno.out]; rfl, hbw1⟩
        · have h5 : ((p : Int) == 0) = false := by simpa using h2
          have h6 : ((r : Int) == 45) = false := by simp; omega
          clear h2
          go_wp2
          go_ret
          exact ⟨by rw [hno.out]; rfl, hbw1⟩
    · have hnx := fun ty => Lib.run_next_end_at (P := Tryz.prog) wr w.heap.size s p ty hit (by omega)
      have hpe : p = l.length := by omega
      subst hpe
      replace hB := Lib.hid (hB.out.trans M3.tail_end)
      cases l with
      | nil =>
        go_wp2
        go_ret
        exact ⟨by rw [hB.out]; rfl, hbw⟩
      | cons c r =>
        go_wp2
        go_ret
        exact ⟨by rw [hB.out]; rfl, hbw⟩
end Go.Proofs.YteefodibpjgicaaGreat

namespace Go.Proofs.YteefodibpjgicaaGreat
namespace M3
abbrev C7 : List UInt8 := [9, 10, 12, 32, 47, 62, 61]
theorem badB_eq (c : UInt8) : badB c = C7.contains c := by
  have e : ∀ (n : Nat) (h : n < 256), (c.toNat == n) = (c == n.toUInt8) := by
    intro n h
    rw [Bool.eq_iff_iff, beq_iff_eq, beq_iff_eq]
    constructor
    · intro h1; rw [← h1]; simp
    · rintro rfl; exact M1.toNat_u8 n h
  unfold badB
  rw [e 9 (by decide), e 10 (by decide), e 12 (by decide), e 32 (by decide), e 47 (by decide), e 62 (by decide), e 61 (by decide)]
  simp only [C7, List.contains_cons, List.contains_nil, Bool.or_false, Bool.or_assoc]
  rfl
theorem badB_high (c : UInt8) (h : 128 ≤ c.toNat) : badB c = false := by
  unfold badB
  simp
  omega
theorem high_skip (c : UInt8) (t : List UInt8) (h : 128 ≤ c.toNat) : ∀ x ∈ (c :: t).take (M1.dec (c :: t)).2, 128 ≤ x.toNat := by
  have hd := M2.dec_hi c t h
  rcases M1.dec_cases (c :: t) (by simp) with ⟨h1, h2, h3⟩ | ⟨h1, _⟩
  · intro x hx
    rw [h2, h3] at hx
    rw [List.take_left'] at hx
    · exact M2.enc_high _ h1 (by omega) x hx
    · rw [← h3, ← h2]
  · rw [h1]
    intro x hx
    simp at hx
    subst hx; exact h
theorem any_skip (c : UInt8) (t : List UInt8) (h : 128 ≤ c.toNat) : (c :: t).any badB = ((c :: t).drop (M1.dec (c :: t)).2).any badB := by
  conv => lhs; rw [← List.take_append_drop (M1.dec (c :: t)).2 (c :: t), List.any_append]
  have : ((c :: t).take (M1.dec (c :: t)).2).any badB = false := by
    rw [List.any_eq_false]
    intro x hx
    rw [badB_high x (high_skip c t h x hx)]
    simp
  rw [this, Bool.false_or]
theorem indexAny_bad (l : List UInt8) : decide (0 ≤ Lib.indexAny l C7) = l.any badB := by
  induction l with
  | nil => rfl
  | cons c r ih =>
    have hge := Lib.indexAny_ge C7 r
    rw [Lib.indexAny, List.any_cons, badB_eq, ← ih]
    cases hc : C7.contains c
    · simp only [Bool.false_or, Bool.false_eq_true, if_false, beq_iff_eq]
      split
      · rename_i h; rw [h]
      · congr 1; exact propext (by omega)
    · simp
theorem small_cap (c : UInt8) : (M1.small c == c) = !capB c := by
  have h := M1.small_nat c
  by_cases hc : 65 ≤ c.toNat ∧ c.toNat ≤ 90
  · rw [if_pos hc] at h
    have h1 : capB c = true := decide_eq_true hc
    rw [h1]
    simp only [Bool.not_true, beq_eq_false_iff_ne, ne_eq]
    intro e; rw [e] at h; omega
  · have h1 : capB c = false := decide_eq_false hc
    rw [h1]
    simp only [Bool.not_false, beq_iff_eq]
    unfold M1.small
    rw [if_neg hc]
theorem fold_same (l : List UInt8) : (M1.fold l == l) = !(l.any capB) := by
  induction l with
  | nil => rfl
  | cons c r ih =>
    show (M1.small c :: M1.fold r == c :: r) = _
    rw [List.cons_beq_cons, ih, small_cap, List.any_cons, Bool.not_or]
end M3
end Go.Proofs.YteefodibpjgicaaGreat

namespace Go.Proofs.YteefodibpjgicaaGreat
open Go.RowKit
abbrev c7 : ByteArray := ⟨#[9, 10, 12, 32, 47, 62, 61]⟩
theorem encode_high (r : Int) (h0 : 128 ≤ r) (h1 : r ≤ 1114111) (hs : r < 55296 ∨ 57343 < r) :
    (∃ a b : UInt8, Utf8.encode r = ⟨#[a, b]⟩ ∧ 128 ≤ b.toNat) ∨ (∃ a b c : UInt8, Utf8.encode r = ⟨#[a, b, c]⟩ ∧ 128 ≤ c.toNat) ∨ (∃ a b c d : UInt8, Utf8.encode r = ⟨#[a, b, c, d]⟩ ∧ 128 ≤ d.toNat) := by
  have hv : Utf8.valid r = true := by rw [M1.valid_iff]; exact decide_eq_true (by unfold M1.okRune; omega)
  unfold Utf8.encode
  simp only [hv, if_true]
  obtain ⟨n, rfl⟩ := Int.eq_ofNat_of_zero_le (show 0 ≤ r by omega)
  simp only [Int.toNat_natCast]
  rw [if_neg (by omega)]
  split
  · exact Or.inl ⟨_, _, rfl, by rw [M1.toNat_u8 _ (by omega)]; omega⟩
  split
  · exact Or.inr (Or.inl ⟨_, _, _, rfl, by rw [M1.toNat_u8 _ (by omega)]; omega⟩)
  · exact Or.inr (Or.inr ⟨_, _, _, _, rfl, by rw [M1.toNat_u8 _ (by omega)]; omega⟩)
set_option maxHeartbeats 1000000 in
theorem validRune (r : Int) (w : World) (h0 : 128 ≤ r) (h1 : r ≤ 1114111) (hs : r < 55296 ∨ 57343 < r) :
    Calls Tryz.prog 129 #[.int .i32 r] w fun e w' => e = .returned (.bool true) ∧ w' = w := by
  rcases hs with hs | hs
  · go_enter Tryz.func129, Tryz.ntmps129
    go_wp2
    go_ret
    exact ⟨rfl, rfl⟩
  · have hd : decide (r < 55296) = false := decide_eq_false (by omega)
    go_enter Tryz.func129, Tryz.ntmps129
    go_wp2
    go_ret
    exact ⟨rfl, rfl⟩
theorem quiet_add_same {P : Program} {f : FuncId} {args : Array Value} {w : World} {a n : Nat} {v : Value}
    (h : Calls P f args (w.drewN (a + n)) fun e w' => e = .returned v ∧ w' = w.drewN (a + n)) :
    Calls P f args (w.drewN (a + n)) fun e w'' => e = .returned v ∧ ∃ m, w'' = w.drewN (a + m) :=
  h.mono fun _ _ ⟨he, hm⟩ => ⟨he, n, hm⟩
theorem below_drewN {B : Nat} {a w : World} (h : Below B a w) (n : Nat) : Below B a (w.drewN n) := ⟨h.os, h.tape, h.output, h.size, h.block⟩
theorem sIndexByteHigh (s : ByteArray) (b : UInt8) (w : World) (hb : 128 ≤ b.toNat) (hs : s.data.toList.all (fun x => decide (x.toNat < 128)) = true) :
    Calls Tryz.prog 128 #[.string s, .int .u8 (b.toNat : Int)] w fun e w' => e = .returned (.int .i64 (-1)) ∧ w' = w :=
  (sIndexByte s b.toNat w).mono fun e w' ⟨h1, h2⟩ => ⟨by
    rw [h1]
    simp only [Int.toNat_natCast, Nat.toUInt8_eq, UInt8.ofNat_toNat]
    rw [M2.indexByte_no]
    intro hm
    have := of_decide_eq_true (List.all_eq_true.1 hs _ hm)
    omega, h2⟩
set_option maxHeartbeats 4000000 in
set_option maxRecDepth 100000 in
theorem indexRune7_two (r : Int) (a b : UInt8) (w : World) (h0 : 128 ≤ r) (h1 : r ≤ 1114111) (hb : (r == 65533) = false) (hs : r < 55296 ∨ 57343 < r) (he : Utf8.encode r = ⟨#[a, b]⟩) (hbb : 128 ≤ b.toNat) :
    Calls Tryz.prog 124 #[.string c7, .int .i32 r] w fun e w' => e = .returned (.int .i64 (-1)) ∧ Below w.heap.size w w' := by
  have hd : decide (r < 128) = false := decide_eq_false (by omega)
  have hv := Lib.hid (fun w => validRune r w h0 h1 hs)
  clear hs
  go_enter Tryz.func124, Tryz.ntmps124
  go_wp2_with (go_at_call 129; refine (hv.out _).mono ?_; rintro e w1 ⟨rfl, rfl⟩)
  go_step3
  go_wp2_with (go_at_call 129; refine (hv.out _).mono ?_; rintro e w1 ⟨rfl, rfl⟩)
  go_loop [9] (fun i => i = .int .i64 1) (fun _ => 0)
  case atStart => rfl
  case round =>
    obtain rfl := hrel
    have hq : (((c7[1]'(by decide)).toNat : Int) != (((⟨#[a, b]⟩ : ByteArray)[1]'(by show 1 < 2; decide)).toNat : Int)) = true := by
      show ((10 : Int) != (b.toNat : Int)) = true
      simp; omega
    go_wp2
    go_step3
    go_wp2
    go_quiet (fail)
    go_wp2
    go_quiet ((go_at_call 128; exact quiet_add_same (sIndexByteHigh _ _ _ hbb (by decide))))
    go_wp2
    rw [Exit.noGoto_ret]
    go_wp2
    rw [Exit.noGoto_ret]
    go_wp2
    go_ret
    exact ⟨rfl, ⟨rfl, rfl, rfl, Nat.le_refl _, fun _ _ => rfl⟩⟩
set_option maxHeartbeats 4000000 in
set_option maxRecDepth 100000 in
theorem indexRune7_three (r : Int) (a b c : UInt8) (w : World) (h0 : 128 ≤ r) (h1 : r ≤ 1114111) (hb : (r == 65533) = false) (hs : r < 55296 ∨ 57343 < r) (he : Utf8.encode r = ⟨#[a, b, c]⟩) (hbb : 128 ≤ c.toNat) :
    Calls Tryz.prog 124 #[.string c7, .int .i32 r] w fun e w' => e = .returned (.int .i64 (-1)) ∧ Below w.heap.size w w' := by
  have hd : decide (r < 128) = false := decide_eq_false (by omega)
  have hv := Lib.hid (fun w => validRune r w h0 h1 hs)
  clear hs
  go_enter Tryz.func124, Tryz.ntmps124
  go_wp2_with (go_at_call 129; refine (hv.out _).mono ?_; rintro e w1 ⟨rfl, rfl⟩)
  go_step3
  go_wp2_with (go_at_call 129; refine (hv.out _).mono ?_; rintro e w1 ⟨rfl, rfl⟩)
  go_loop [9] (fun i => i = .int .i64 2) (fun _ => 0)
  case atStart => rfl
  case round =>
    obtain rfl := hrel
    have hq : (((c7[2]'(by decide)).toNat : Int) != (((⟨#[a, b, c]⟩ : ByteArray)[2]'(by show 2 < 3; decide)).toNat : Int)) = true := by
      show ((12 : Int) != (c.toNat : Int)) = true
      simp; omega
    go_wp2
    go_step3
    go_wp2
    go_quiet (fail)
    go_wp2
    go_quiet ((go_at_call 128; exact quiet_add_same (sIndexByteHigh _ _ _ hbb (by decide))))
    go_wp2
    rw [Exit.noGoto_ret]
    go_wp2
    rw [Exit.noGoto_ret]
    go_wp2
    go_ret
    exact ⟨rfl, ⟨rfl, rfl, rfl, Nat.le_refl _, fun _ _ => rfl⟩⟩
set_option maxHeartbeats 4000000 in
set_option maxRecDepth 100000 in
theorem indexRune7_four (r : Int) (a b c d : UInt8) (w : World) (h0 : 128 ≤ r) (h1 : r ≤ 1114111) (hb : (r == 65533) = false) (hs : r < 55296 ∨ 57343 < r) (he : Utf8.encode r = ⟨#[a, b, c, d]⟩) (hbb : 128 ≤ d.toNat) :
    Calls Tryz.prog 124 #[.string c7, .int .i32 r] w fun e w' => e = .returned (.int .i64 (-1)) ∧ Below w.heap.size w w' := by
  have hd : decide (r < 128) = false := decide_eq_false (by omega)
  have hv := Lib.hid (fun w => validRune r w h0 h1 hs)
  clear hs
  go_enter Tryz.func124, Tryz.ntmps124
  go_wp2_with (go_at_call 129; refine (hv.out _).mono ?_; rintro e w1 ⟨rfl, rfl⟩)
  go_step3
  go_wp2_with (go_at_call 129; refine (hv.out _).mono ?_; rintro e w1 ⟨rfl, rfl⟩)
  go_loop [9] (fun i => i = .int .i64 3) (fun _ => 0)
  case atStart => rfl
  case round =>
    obtain rfl := hrel
    have hq : (((c7[3]'(by decide)).toNat : Int) != (((⟨#[a, b, c, d]⟩ : ByteArray)[3]'(by show 3 < 4; decide)).toNat : Int)) = true := by
      show ((32 : Int) != (d.toNat : Int)) = true
      simp; omega
    go_wp2
    go_step3
    go_wp2
    go_quiet (fail)
    go_wp2
    go_quiet ((go_at_call 128; exact quiet_add_same (sIndexByteHigh _ _ _ hbb (by decide))))
    go_wp2
    rw [Exit.noGoto_ret]
    go_wp2
    rw [Exit.noGoto_ret]
    go_wp2
    go_ret
    exact ⟨rfl, ⟨rfl, rfl, rfl, Nat.le_refl _, fun _ _ => rfl⟩⟩
set_option maxHeartbeats 4000000 in
set_option maxRecDepth 100000 in
theorem indexRune7_bad (w : World) :
    Calls Tryz.prog 124 #[.string c7, .int .i32 65533] w fun e w' => e = .returned (.int .i64 (-1)) ∧ Below w.heap.size w w' := by
  go_enter Tryz.func124, Tryz.ntmps124
  go_wp2
  go_loopw [] (fun wr => ∃ p : Nat, p ≤ 7 ∧ wr.heap[w.heap.size]? = some (.stringIter c7 p) ∧ Below w.heap.size w wr) (fun wr => 7 - wr.iterPos w.heap.size)
  case atStart => exact ⟨0, by omega, World.iter_heap w c7 0, (Below.refl _ w).alloc (Nat.le_refl _) _⟩
  case round =>
    obtain ⟨p, hpl, hit, hbw⟩ := hrel
    have hsz : w.heap.size < wr.heap.size := (Array.getElem?_eq_some_iff.1 hit).1
    by_cases hp : p < 7
    · have hnx := next_dec (P := Tryz.prog) wr w.heap.size c7 p hit hp
      have hd : ∃ x : Nat, M1.dec (c7.data.toList.drop p) = (x, 1) ∧ x < 128 := by
        have : p = 0 ∨ p = 1 ∨ p = 2 ∨ p = 3 ∨ p = 4 ∨ p = 5 ∨ p = 6 := by omega
        rcases this with rfl | rfl | rfl | rfl | rfl | rfl | rfl <;> exact ⟨_, M2.dec_lo _ _ (by decide), by decide⟩
      obtain ⟨x, hx, hx2⟩ := hd
      rw [hx] at hnx
      have hbw1 := Lib.below_iterAt hbw (Nat.le_refl _) c7 (p + 1)
      have hit1 := Lib.iterAt_heap wr w.heap.size c7 p (p + 1) hit
      simp only at hnx
      generalize wr.iterAt w.heap.size c7 (p + 1) = w1 at *
      have hne : ((x : Int) == 65533) = false := by simp; omega
      clear hx
      go_wp2
      go_roundw
      case rel => exact ⟨p + 1, by omega, hit1, hbw1⟩
      case measure => rw [iterPos_of hit1, iterPos_of hit]; omega
    · have hnx := fun ty => Lib.run_next_end_at (P := Tryz.prog) wr w.heap.size c7 p ty hit (by show ¬ p < 7; omega)
      go_wp2
      try rw [Exit.noGoto_ret]
      go_wp2
      go_ret
      exact ⟨rfl, hbw⟩
theorem indexRune7 (r : Int) (w : World) (h0 : 0 ≤ r) (hs : r < 55296 ∨ 57343 < r) (h1 : r ≤ 1114111) :
    Calls Tryz.prog 124 #[.string c7, .int .i32 r] w fun e w' => ∃ z : Int, e = .returned (.int .i64 z) ∧ decide (0 ≤ z) = (decide (r < 128) && M3.badB r.toNat.toUInt8) ∧ Below w.heap.size w w' := by
  by_cases h128 : r < 128
  · refine (Tryz.strings_IndexRune_ascii c7 r w h0 h128).mono fun e w' ⟨h2, h3⟩ => ⟨_, h2, ?_, by rw [h3]; exact Below.refl _ _⟩
    rw [M3.badB_eq, Lib.contains_iff_indexByte, decide_eq_true h128, Bool.true_and]
  · have hd : (decide (r < 128) && M3.badB r.toNat.toUInt8) = false := by rw [decide_eq_false h128]; rfl
    rw [hd]
    by_cases hb : r = 65533
    · subst hb
      exact (indexRune7_bad w).mono fun e w' ⟨h2, h3⟩ => ⟨_, h2, rfl, h3⟩
    · have hbb : (r == 65533) = false := by simpa using hb
      rcases encode_high r (by omega) h1 hs with ⟨a, b, he, h⟩ | ⟨a, b, c, he, h⟩ | ⟨a, b, c, d, he, h⟩
      · exact (indexRune7_two r a b w (by omega) h1 hbb hs he h).mono fun e w' ⟨h2, h3⟩ => ⟨_, h2, rfl, h3⟩
      · exact (indexRune7_three r a b c w (by omega) h1 hbb hs he h).mono fun e w' ⟨h2, h3⟩ => ⟨_, h2, rfl, h3⟩
      · exact (indexRune7_four r a b c d w (by omega) h1 hbb hs he h).mono fun e w' ⟨h2, h3⟩ => ⟨_, h2, rfl, h3⟩
end Go.Proofs.YteefodibpjgicaaGreat

namespace Go.Proofs.YteefodibpjgicaaGreat
open Go.RowKit
def AnyPost (l : List UInt8) (w : World) (e : Ending) (w' : World) : Prop := ∃ z : Int, e = .returned (.int .i64 z) ∧ decide (0 ≤ z) = l.any M3.badB ∧ Below w.heap.size w w'
theorem zero86 : ∀ w, (zeroValue 137).run Tryz.prog w = .ok (.agg (Array.replicate 256 (.bool false))) w := by
  intro w; kernel_rfl
set_option maxHeartbeats 1000000 in
theorem useASCII (n : Nat) (w : World) (h : n ≤ 8) : Calls Tryz.prog 125 #[.int .i64 (n : Int)] w fun e w' => e = .returned (.bool false) ∧ w = w' := by
  have hd : decide (8 < (n : Int)) = false := decide_eq_false (by omega)
  go_enter Tryz.func125, Tryz.ntmps125
  go_wp2
  go_ret
  exact ⟨rfl, rfl⟩
set_option maxHeartbeats 2000000 in
set_option maxRecDepth 100000 in
theorem indexAny7_short (s : ByteArray) (w : World) (hs : s.size ≤ 8) :
    Calls Tryz.prog 121 #[.string s, .string c7] w (AnyPost s.data.toList w) := by
  have hsz : s.size = s.data.toList.length := rfl
  generalize hl : s.data.toList = l at *
  go_enter Tryz.func121, Tryz.ntmps121
  go_wp2_with (go_at_call 125; refine (useASCII _ _ (by omega)).mono ?_; rintro e w1 ⟨rfl, rfl⟩)
  go_loopw [] (fun wr => ∃ p : Nat, p ≤ l.length ∧ wr.heap[w.heap.size]? = some (.stringIter s p) ∧ Below w.heap.size w wr ∧ Hid (l.any M3.badB = (l.drop p).any M3.badB)) (fun wr => l.length - wr.iterPos w.heap.size)
  case atStart => exact ⟨0, by omega, World.iter_heap w s 0, (Below.refl _ w).alloc (Nat.le_refl _) _, rfl⟩
  case round =>
    obtain ⟨p, hpl, hit, hbw, hB⟩ := hrel
    have hsz0 : w.heap.size < wr.heap.size := (Array.getElem?_eq_some_iff.1 hit).1
    by_cases hp : p < l.length
    · have hdr : l.drop p = l[p] :: l.drop (p + 1) := List.drop_eq_getElem_cons hp
      have hnx := next_dec (P := Tryz.prog) wr w.heap.size s p hit (by omega)
      have hle := M1.dec_le (l.drop p) (drop_ne hp)
      have hpos := M1.dec_pos (l.drop p) (drop_ne hp)
      rw [List.length_drop] at hle
      have hok := M1.runes_ok _ (l.drop p) (Nat.le_refl _) _ (by rw [M1.runes_step _ (drop_ne hp)]; exact List.mem_cons_self)
      unfold M1.okRune at hok
      have hskip := M3.any_skip l[p] (l.drop (p + 1))
      have hlo := M2.dec_lo l[p] (l.drop (p + 1))
      have hhi := M2.dec_hi l[p] (l.drop (p + 1))
      have hst : (l.drop p).any M3.badB = (M3.badB l[p] || (l.drop (p + 1)).any M3.badB) := by rw [hdr]; rfl
      rw [← hdr] at hskip hlo hhi
      rw [hl] at hnx
      generalize l[p] = c at *
      have hd2 := fun n => List.drop_drop (i := n) (j := p) (l := l)
      replace hd2 := Lib.hid hd2
      generalize M1.dec (l.drop p) = rw_ at *
      obtain ⟨r, wd⟩ := rw_
      simp only at hnx hhi hle hpos hok hskip
      have hbw1 := Lib.below_iterAt hbw (Nat.le_refl _) s (p + wd)
      have hit1 := Lib.iterAt_heap wr w.heap.size s p (p + wd) hit
      generalize wr.iterAt w.heap.size s (p + wd) = w1 at *
      have hsz1 : w.heap.size < w1.heap.size := (Array.getElem?_eq_some_iff.1 hit1).1
      clear hdr hl
      replace hst := Lib.hid (hB.out.trans hst)
      have hir := Lib.hid (fun W => indexRune7 (r : Int) W (by omega) (by omega) (by omega))
      rcases Nat.lt_or_ge c.toNat 128 with h1 | h1
      · have hrw := hlo h1
        simp only [Prod.mk.injEq] at hrw
        obtain ⟨rfl, rfl⟩ := hrw
        have hcc : (decide ((c.toNat : Int) < 128) && M3.badB (c.toNat : Int).toNat.toUInt8) = M3.badB c := by
          rw [decide_eq_true (by omega), Bool.true_and]; simp
        replace hcc := Lib.hid hcc
        clear hlo hhi hskip
        cases hbad : M3.badB c
        · rw [hbad, Bool.false_or] at hst
          rw [hbad] at hcc
          go_wp2_with fail
          refine (hir.out _).mono ?_
          rintro e w2 ⟨z, rfl, hz, hb2⟩
          rw [hcc.out] at hz
          have hz2 : z < 0 := by have := of_decide_eq_false hz; omega
          clear hz
          have hit2 := (hb2.block w.heap.size hsz1).trans hit1
          have hbw2 := hbw1.trans (hb2.mono (by omega))
          go_wp2
          go_roundw
          case rel => exact ⟨p + 1, by omega, hit2, hbw2, hst⟩
          case measure => rw [iterPos_of hit2, iterPos_of hit]; omega
        · rw [hbad, Bool.true_or] at hst
          rw [hbad] at hcc
          go_wp2_with fail
          refine (hir.out _).mono ?_
          rintro e w2 ⟨z, rfl, hz, hb2⟩
          rw [hcc.out] at hz
          have hz2 : 0 ≤ z := of_decide_eq_true hz
          clear hz
          have hbw2 := hbw1.trans (hb2.mono (by omega))
          go_wp2
          go_ret
          exact ⟨_, rfl, by rw [hst.out]; exact decide_eq_true (by omega), hbw2⟩
      · replace hhi := hhi h1
        replace hskip := Lib.hid ((hB.out.trans (hskip h1)).trans (by rw [hd2.out]))
        clear hlo hst hB
        go_wp2_with fail
        refine (hir.out _).mono ?_
        rintro e w2 ⟨z, rfl, hz, hb2⟩
        rw [decide_eq_false (by omega : ¬ (r : Int) < 128), Bool.false_and] at hz
        have hz2 : z < 0 := by have := of_decide_eq_false hz; omega
        clear hz
        have hit2 := (hb2.block w.heap.size hsz1).trans hit1
        have hbw2 := hbw1.trans (hb2.mono (by omega))
        go_wp2
        go_roundw
        case rel => exact ⟨p + wd, by omega, hit2, hbw2, hskip⟩
        case measure => rw [iterPos_of hit2, iterPos_of hit]; omega
    · have hnx := fun ty => Lib.run_next_end_at (P := Tryz.prog) wr w.heap.size s p ty hit (by omega)
      go_wp2
      go_ret
      exact ⟨_, rfl, by rw [hB.out, List.drop_of_length_le (by omega)]; rfl, hbw⟩
theorem indexAny7 (s : ByteArray) (w : World) (hs : s.size < 4294967281) :
    Calls Tryz.prog 121 #[.string s, .string c7] w (AnyPost s.data.toList w) := by
  by_cases h : s.size ≤ 8
  · exact indexAny7_short s w h
  · exact (Tryz.strings_IndexAny_long zero86 s c7 w (by decide) (by omega) hs (by decide) (by intro j b hb; match j, hb with | 0, hb | 1, hb | 2, hb | 3, hb | 4, hb | 5, hb | 6, hb => cases hb; decide)).mono fun e w' ⟨h1, h2⟩ =>
      ⟨_, h1, M3.indexAny_bad _, by rw [h2]; exact ((Below.refl _ w).alloc (Nat.le_refl _) _).alloc (by simp) _⟩
set_option maxHeartbeats 1000000 in
theorem containsAny7 (s : ByteArray) (w : World) (hs : s.size < 4294967281) :
    Calls Tryz.prog 112 #[.string s, .string c7] w fun e w' => e = .returned (.bool (s.data.toList.any M3.badB)) ∧ Below w.heap.size w w' := by
  have h := Lib.hid (fun W => indexAny7 s W hs)
  go_enter Tryz.func112, Tryz.ntmps112
  go_wp2_with fail
  refine (h.out _).mono ?_
  rintro e w1 ⟨z, rfl, hz, hb⟩
  replace hz := Lib.hid hz
  go_wp2
  go_ret
  exact ⟨by rw [← hz.out]; rfl, hb⟩
set_option maxHeartbeats 2000000 in
set_option maxRecDepth 100000 in
theorem domAttributed (s : ByteArray) (w : World) (hs : s.size ≤ 268435456) :
    Calls Tryz.prog 103 #[.string s] w fun e w' => e = .returned (.bool (M3.attributedB s.data.toList)) ∧ Below w.heap.size w w' := by
  have hS := Lib.hid hs
  have hI := Lib.hid (fun W => utfIs s W (by omega))
  have hF := Lib.hid (fun W => utfFold s W (by omega))
  have hC := Lib.hid (fun W => containsAny7 s W (by omega))
  have hf : ((⟨(M1.fold s.data.toList).toArray⟩ : ByteArray).toList == s.toList) = !(s.data.toList.any M3.capB) := by
    rw [← M3.fold_same, Lib.toList_data, Lib.toList_data]
  have hr : Hid (M3.attributedB s.data.toList = (!s.toList.isEmpty && (M1.isB s.data.toList && !(s.data.toList.any M3.capB) && !(s.data.toList.any M3.badB)))) := by
    show _ = _
    rw [Lib.toList_data]; rfl
  generalize (⟨(M1.fold s.data.toList).toArray⟩ : ByteArray) = F at *
  generalize M1.isB s.data.toList = b1 at *
  generalize s.data.toList.any M3.capB = b2 at *
  generalize s.data.toList.any M3.badB = b3 at *
  clear hs
  by_cases he : s.toList = []
  · have he2 : s.toList.isEmpty = true := by rw [he]; rfl
    have hr2 : Hid (M3.attributedB s.data.toList = false) := by
      show _ = _
      rw [hr.out, he2]; rfl
    clear hr hf
    go_enter Tryz.func103, Tryz.ntmps103
    go_wp2
    go_ret
    exact ⟨by rw [hr2.out]; rfl, Below.refl _ _⟩
  have he2 : s.toList.isEmpty = false := by cases h : s.toList with | nil => exact absurd h he | cons _ _ => rfl
  rw [he2] at hr
  cases b1
  · go_enter Tryz.func103, Tryz.ntmps103
    go_wp2_with fail
    refine (hI.out _).mono ?_
    rintro e w1 ⟨rfl, hb1⟩
    go_wp2
    go_ret
    exact ⟨by rw [hr.out]; rfl, hb1⟩
  cases b2
  · go_enter Tryz.func103, Tryz.ntmps103
    go_wp2_with fail
    refine (hI.out _).mono ?_
    rintro e w1 ⟨rfl, hb1⟩
    go_wp2_with fail
    refine (hF.out _).mono ?_
    rintro e w2 ⟨rfl, hb2⟩
    go_wp2_with fail
    refine (hC.out _).mono ?_
    rintro e w3 ⟨rfl, hb3⟩
    go_wp2
    go_ret
    exact ⟨by rw [hr.out]; cases b3 <;> rfl, bt (bt hb1 hb2) hb3⟩
  · go_enter Tryz.func103, Tryz.ntmps103
    go_wp2_with fail
    refine (hI.out _).mono ?_
    rintro e w1 ⟨rfl, hb1⟩
    go_wp2_with fail
    refine (hF.out _).mono ?_
    rintro e w2 ⟨rfl, hb2⟩
    go_wp2
    go_ret
    exact ⟨by rw [hr.out]; rfl, bt hb1 hb2⟩
end Go.Proofs.YteefodibpjgicaaGreat

namespace Go.Proofs.YteefodibpjgicaaGreat
namespace M3
def plainF (n : ByteArray) (ats : List Att) (ks : List Nd) : Bool := nilB n && ats.isEmpty && ks.isEmpty
def kindlyF (k : Int) (n : ByteArray) (ats : List Att) (t : ByteArray) (ks : List Nd) : Bool := if k = 1 then nilB t else if k = 2 ∨ k = 3 then plainF n ats ks else false
def elemF (n : ByteArray) (ats : List Att) : Int := if namedB n.data.toList then (if namesE [] ats = 0 then valuesE ats else namesE [] ats) else 4
def oneF (k : Int) (n : ByteArray) (ats : List Att) (t : ByteArray) (ks : List Nd) (p : Bool) : Int :=
  if kindlyF k n ats t ks then (if k = 1 then elemF n ats else if M1.isB t.data.toList && !(decide (k = 2) && (nilB t || p)) then 0 else 2) else 7
theorem oneE_mk (k : Int) (n : ByteArray) (ats : List Att) (t : ByteArray) (ks : List Nd) (p : Bool) : oneE (.mk k n ats t ks) p = oneF k n ats t ks p := by
  unfold oneE oneF kindlyF
  show (if k = 1 then elemE _ else if k = 2 then (if plainF n ats ks then (if M1.isB t.data.toList && !(nilB t || p) then 0 else 2) else 7) else if k = 3 then (if plainF n ats ks then (if M1.isB t.data.toList then 0 else 2) else 7) else 7) = _
  by_cases h1 : k = 1
  · rw [if_pos h1, if_pos h1, if_pos h1]
    rfl
  by_cases h2 : k = 2
  · rw [if_neg h1, if_pos h2, if_neg h1, if_pos (Or.inl h2), if_neg h1, decide_eq_true h2, Bool.true_and]
  by_cases h3 : k = 3
  · rw [if_neg h1, if_neg h2, if_pos h3, if_neg h1, if_pos (Or.inr h3), if_neg h1, decide_eq_false h2, Bool.false_and, Bool.not_false, Bool.and_true]
  · have hno : ¬ (k = 2 ∨ k = 3) := fun h => h.elim h2 h3
    rw [if_neg h1, if_neg h2, if_neg h3, if_neg h1, if_neg hno]
    rfl
end M3
end Go.Proofs.YteefodibpjgicaaGreat

namespace Go.Proofs.YteefodibpjgicaaGreat
open Go.RowKit Go.Maps Go.WideShapes
variable {H : Type}
def rowD (l : List (Lit × DataW H)) (D : DataW H) : DataW H := l.foldl (fun D p => D.put p.1 p.2) D
theorem rowD_has : ∀ (l : List (Lit × DataW H)) (D : DataW H) (k : Lit), IsMap D → (∀ p ∈ l, WideAt.IsKeyLit p.1) → Maps.has (rowD l D) k = (l.any (fun p => p.1.sameKey k) || Maps.has D k)
  | [], _, _, _, _ => by simp [rowD]
  | p :: l, D, k, h, hk => by
    have ih := rowD_has l (D.put p.1 p.2) k (h.put _ _) (fun q hq => hk q (by simp [hq]))
    show Maps.has (rowD l (D.put p.1 p.2)) k = _
    rw [ih, List.any_cons]
    by_cases e : p.1 = k
    · subst e
      rw [has_put_same h (hk p (by simp)), WideAt.sameKey_self (hk p (by simp))]
      simp
    · rw [has_put_other (fun h => e h.symm), sameKey_ne e]
      simp
theorem rowD_other : ∀ (l : List (Lit × DataW H)) (D z : DataW H) (k : Lit), (∀ p ∈ l, p.1 ≠ k) → (rowD l D).atKey k z = D.atKey k z
  | [], _, _, _, _ => rfl
  | p :: l, D, z, k, h => by
    show (rowD l (D.put p.1 p.2)).atKey k z = _
    rw [rowD_other l _ z k (fun q hq => h q (by simp [hq])), atKey_put_other (fun e => h p (by simp) e.symm)]
theorem rowD_at : ∀ (l : List (Lit × DataW H)) (D z : DataW H) (p : Lit × DataW H), IsMap D → (∀ p ∈ l, WideAt.IsKeyLit p.1) → l.Pairwise (fun p q => p.1 ≠ q.1) → p ∈ l → (rowD l D).atKey p.1 z = p.2
  | [], _, _, _, _, _, _, hp => by simp at hp
  | q :: l, D, z, p, h, hk, hd, hp => by
    obtain ⟨h1, h2⟩ := List.pairwise_cons.1 hd
    show (rowD l (D.put q.1 q.2)).atKey p.1 z = _
    rcases List.mem_cons.1 hp with rfl | hp
    · rw [rowD_other l _ z _ (fun q hq e => h1 q hq e.symm), atKey_put_same h (hk _ (by simp))]
    · exact rowD_at l _ z p (h.put _ _) (fun q hq => hk q (by simp [hq])) h2 hp
theorem ownsMap_below {P : Program} {k : TypeId} {R : Value → Option (DataW H × List MemPlace)} {w w' : World} {b n : Nat} {D : DataW H} (h : w.ownsMap P k R b n D) (hb : Below w.heap.size w w') : w'.ownsMap P k R b n D :=
  h.kept (row := none) ⟨hb.os, hb.tape, hb.output, hb.size, fun k hk _ => hb.block k hk⟩ (by simp)
theorem look_ok_int {P : Program} {w : World} {b n : Nat} {D : DataW H} {t k e : TypeId} {q : IntKind} (h : w.ownsMap P k (plainElem P e) b n D) (K : Keyed P k) (ht : P.underlying t = some (.map k e)) (he : P.underlying e = some (.int q))
    (hz : (zeroValue e).run P w = .ok (.int q 0) w) {key : Value} {kl : Lit} (hkey : keyOf P k key = some kl) {c : Int} (hc : D.atKey kl (.lit (.int q 0)) = .lit (.int q c)) :
    (Instr.lookup t (.map (some b)) key true).run P w = .ok (.tuple #[.int q c, .bool (Maps.has D kl)]) w := by
  have hw0 : (Lit.int q 0).wf = true := by cases q <;> decide
  obtain ⟨v, ps, hrun, hv⟩ := h.look_ok K ht hz (plainElem_int he hw0) hkey
  obtain ⟨c', rfl, h2, _⟩ := plainElem_int_inv he hv
  simp only [Prod.mk.injEq] at h2
  rw [h2.1] at hc
  cases hc
  exact hrun
end Go.Proofs.YteefodibpjgicaaGreat

namespace Go.Proofs.YteefodibpjgicaaGreat
open Go.RowKit Go.Maps Go.WideShapes
theorem Row.below {S : Nat → Prop} {w w' : World} {B k n : Nat} {v : Value} {xs : List Value} (h : Row S w k v n xs) (hS : ∀ b, S b → b < B) (hb : Below B w w') : Row S w' k v n xs := h.keep fun b h => hb.block b (hS b h)
theorem RepN.below {S : Nat → Prop} {w w' : World} {B : Nat} {v : Value} {l : List Nd} (h : RepN S w v l) (hS : ∀ b, S b → b < B) (hb : Below B w w') : RepN S w' v l := h.keep fun b h => hb.block b (hS b h)
theorem RepV.below {S : Nat → Prop} {w w' : World} {B : Nat} {x : Nd} {va vk : Value} (h : RepV S w x va vk) (hS : ∀ b, S b → b < B) (hb : Below B w w') : RepV S w' x va vk := h.keep fun b h => hb.block b (hS b h)
theorem run_makeMap_hint {P : Program} (t k e : TypeId) (kd : IntKind) (n : Int) (ht : P.underlying t = some (.map k e)) (w : World) :
    (Instr.makeMap t (some (.int kd n))).run P w = .ok (.map (some w.heap.size)) (w.alloc (.map #[] 0)) := by
  simp [Instr.makeMap, run_underlying ht]; rfl
theorem zeroU (w : World) : (zeroValue 116).run Tryz.prog w = .ok (.agg #[]) w := by kernel_rfl
theorem lawS : Keyed Tryz.prog 9 := string_keyed Tryz.underlying9
def keysD (l : List ByteArray) : DataW Unit := Maps.setOf (.agg []) (l.map fun s => Lit.string s.data.toList)
theorem keysD_has (l : List ByteArray) (s : ByteArray) : Maps.has (keysD l) (.string s.data.toList) = l.any (M3.eqB s) := by
  unfold keysD
  rw [Maps.has_setOf _ _ _ (by intro x hx; obtain ⟨y, _, rfl⟩ := List.mem_map.1 hx; trivial), List.any_map]
  congr 1
  funext y
  simp only [Function.comp]
  rw [Bool.eq_iff_iff, M3.eqB_iff]
  constructor
  · intro h
    have := WideAt.sameKey_eq h
    simp only [Lit.string.injEq] at this
    cases s; cases y
    congr 1
    exact (Array.ext' this).symm
  · rintro rfl; exact WideAt.sameKey_self (by trivial)
theorem keysD_snoc (l : List ByteArray) (s : ByteArray) : (keysD l).put (.string s.data.toList) (.agg []) = keysD (l ++ [s]) := by
  unfold keysD
  rw [List.map_append]
  exact (Maps.setOf_snoc _ _ _).symm
abbrev Seen (w : World) (b n : Nat) (l : List ByteArray) : Prop := w.ownsMap Tryz.prog 9 (unitElem (H := Unit)) b n (keysD l)
set_option maxHeartbeats 4000000 in
set_option maxRecDepth 100000 in
theorem domNames (S : Nat → Prop) (va : Value) (ats : List Att) (w : World) (hS : ∀ b, S b → b < w.heap.size) (hat : Row S w 2 va ats.length (cellsA ats)) (hsz : ∀ a ∈ ats, a.name.size ≤ 268435456) :
    Calls Tryz.prog 94 #[va] w fun e w' => e = .returned (.int .i64 (M3.namesE [] ats)) ∧ Below w.heap.size w w' := by
  obtain ⟨a, cap, rfl⟩ := hat.slice
  obtain ⟨_, hlc, hcm⟩ := hat.len
  have hmm := fun W => run_makeMap_hint (P := Tryz.prog) 115 9 116 .i64 (ats.length : Int) Tryz.underlying115 W
  have ho := World.ownsMap_made w Tryz.prog 9 (unitElem (H := Unit))
  go_enter Tryz.func94, Tryz.ntmps94
  go_wp2
  go_loopw [13] (fun u13 wr => ∃ i : Nat, i ≤ ats.length ∧ u13 = .int .i64 (i : Int) ∧ Below w.heap.size w wr ∧ Seen wr w.heap.size i ((ats.take i).map Att.name) ∧ Hid (M3.namesE [] ats = M3.namesE ((ats.take i).map Att.name) (ats.drop i))) (fun u13 _ => ats.length - (intOf u13).toNat)
  case atStart => exact ⟨0, by omega, rfl, (Below.refl _ _).alloc (Nat.le_refl _) _, ho, rfl⟩
  case round =>
    obtain ⟨i, hi, rfl, hb, hown, hv⟩ := hrel
    have hz := hb.size
    clear hmm ho
    by_cases hlt : i < ats.length
    · obtain ⟨b, off, rfl, hSb, c0, c1⟩ := (hat.below hS hb).atA i hlt
      have hbl := hS b hSb
      have hsn := hsz _ (List.getElem_mem hlt)
      have hdr : ats.drop i = ats[i] :: ats.drop (i + 1) := List.drop_eq_getElem_cons hlt
      have htk : (ats.take (i + 1)).map Att.name = (ats.take i).map Att.name ++ [ats[i].name] := by
        rw [List.take_succ_eq_append_getElem hlt, List.map_append]; rfl
      rw [hdr, M3.namesE, ← htk] at hv
      have hks := keysD_snoc ((ats.take i).map Att.name) ats[i].name
      rw [← htk] at hks
      have hkh := keysD_has ((ats.take i).map Att.name) ats[i].name
      generalize hs2 : (ats.take (i + 1)).map Att.name = seen2 at *
      replace hs2 := Lib.hid hs2
      generalize (ats.take i).map Att.name = seen at *
      generalize ats[i].value = vl at *
      generalize ats[i].name = nm at *
      clear hdr htk
      replace hks := Lib.hid hks
      have hA := Lib.hid (fun W => domAttributed nm W hsn)
      generalize M3.attributedB nm.data.toList = p at *
      generalize seen.any (M3.eqB nm) = q at *
      replace hkh := Lib.hid hkh
      have hsl : w.heap.size < wr.heap.size := by
        obtain ⟨es, clock, h1, _⟩ := hown
        exact (Array.getElem?_eq_some_iff.1 h1).1
      have hkey := WideMaps.keyOf_string_mk Tryz.underlying9 (s := nm) (by unfold maxLen; omega)
      replace hkey := Lib.hid hkey
      cases p
      · have hv2 : Hid (M3.namesE [] ats = 4) := hv
        clear hv
        go_wp2_with fail
        refine (hA.out _).mono ?_
        rintro e w2 ⟨rfl, hb2⟩
        go_wp2
        go_ret
        exact ⟨by rw [hv2.out]; rfl, (hb.alloc hz _).trans (hb2.mono (by simp; omega))⟩
      · go_wp2_with fail
        refine (hA.out _).mono ?_
        rintro e w2 ⟨rfl, hb2⟩
        have hown2 : Seen w2 w.heap.size i seen := ownsMap_below (hown.alloc _) hb2
        have hsl2 : w.heap.size < w2.heap.size := by have := hb2.size; simp at this; omega
        obtain ⟨v, ps, hrun, hv3⟩ := hown2.look_ok lawS Tryz.underlying115 (zeroU w2) unitElem_mk hkey.out
        obtain ⟨rfl, _⟩ := unitElem_inv hv3
        clear hv3
        rw [hkh.out] at hrun
        have hbox : Box w2 wr.heap.size 43 [.string nm, .string vl] := (Box.new wr _ _).below hb2 (by simp)
        have hc2 := hbox.cell (i := 0) rfl
        have hbw2 : Below w.heap.size w w2 := (hb.alloc hz _).trans (hb2.mono (by simp; omega))
        replace hbox := Lib.hid hbox
        have hz2 : wr.heap.size < w2.heap.size := by have := hb2.size; simp at this; omega
        cases q
        · obtain ⟨w4, hrun2, hown4, ht4⟩ := (hown2.alloc (.cells #[] 116)).store lawS Tryz.underlying115 (by unfold maxLen; omega) hkey.out (unitElem_mk (H := Unit))
          have hbw4 : Below w.heap.size w w4 := (hbw2.alloc hbw2.size (.cells #[] 116)).grown ht4.grown (by simp; omega) (fun k hk => by cases hk; exact Nat.le_refl _)
          have hown5 : Seen w4 w.heap.size (i + 1) seen2 := by show World.ownsMap _ _ _ _ _ _ (keysD seen2); rw [← hks.out]; exact hown4
          clear hown4 ht4
          go_wp2
          go_roundw
          case rel => exact ⟨i + 1, by omega, by go_num, hbw4, by rw [hs2.out]; exact hown5, by show _ = _; rw [hs2.out]; exact hv⟩
          case measure => simp [intOf]; omega
        · have hv2 : Hid (M3.namesE [] ats = 5) := hv
          clear hv
          go_wp2
          go_ret
          exact ⟨by rw [hv2.out]; rfl, hbw2.alloc hbw2.size _⟩
    · have hvd : Hid (M3.namesE [] ats = 0) := by show _ = _; rw [hv.out, List.drop_of_length_le (by omega)]; rfl
      go_wp2
      go_ret
      exact ⟨by rw [hvd.out]; rfl, hb⟩
def Fit1 (x : Nd) : Prop := x.name.size ≤ 268435456 ∧ x.text.size ≤ 268435456 ∧ (∀ a ∈ x.attrs, a.name.size ≤ 268435456 ∧ a.value.size ≤ 268435456) ∧ 1 + x.attrs.length + M3.weight x.kids ≤ 1000000
set_option maxHeartbeats 2000000 in
set_option maxRecDepth 100000 in
theorem domKindly (S : Nat → Prop) (x : Nd) (va vk : Value) (w : World) (hx : RepV S w x va vk) :
    Calls Tryz.prog 75 #[x.val va vk] w fun e w' => e = .returned (.bool (M3.kindlyF x.kind x.name x.attrs x.text x.kids)) ∧ Below w.heap.size w w' := by
  obtain ⟨hat, hkd⟩ := hx
  obtain ⟨a, cap, rfl⟩ := hat.slice
  obtain ⟨a2, cap2, rfl⟩ := hkd.slice
  cases x with | mk k n ats t ks =>
  have hb0 : ∀ cs, Below w.heap.size w (w.alloc (.cells cs 41)) := fun cs => (Below.refl _ _).alloc (Nat.le_refl _) _
  simp only [Nd.val, Nd.kind, Nd.name, Nd.text, Nd.attrs, Nd.kids] at *
  unfold M3.kindlyF M3.plainF M3.nilB
  by_cases h1 : k = 1
  · subst h1
    rw [if_pos rfl]
    go_enter Tryz.func75, Tryz.ntmps75
    go_wp2
    go_ret
    exact ⟨by simp, hb0 _⟩
  have h1b : (k == 1) = false := by simpa using h1
  rw [if_neg h1]
  by_cases h2 : k = 2 ∨ k = 3
  · rw [if_pos h2]
    clear h1
    have hq1 : ((ats.length : Int) == 0) = ats.isEmpty := by cases ats <;> simp; omega
    have hq2 : ((ks.length : Int) == 0) = ks.isEmpty := by cases ks <;> simp; omega
    generalize ats.isEmpty = e1 at *
    generalize ks.isEmpty = e2 at *
    rcases h2 with rfl | rfl
    · go_enter Tryz.func75, Tryz.ntmps75
      go_wp2
      all_goals (go_ret; exact ⟨by simp_all, hb0 _⟩)
    · go_enter Tryz.func75, Tryz.ntmps75
      go_wp2
      all_goals (go_ret; exact ⟨by simp_all, hb0 _⟩)
  · rw [if_neg h2]
    have h2b : (k == 2) = false := by simp; omega
    have h3b : (k == 3) = false := by simp; omega
    clear h1 h2
    go_enter Tryz.func75, Tryz.ntmps75
    go_wp2
    go_ret
    exact ⟨rfl, hb0 _⟩
end Go.Proofs.YteefodibpjgicaaGreat
