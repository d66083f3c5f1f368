/- Package utf's functions: what each call gives, for any bytes. -/
import Derived.Test.YtmnbmdkoljekpaaBuilder
import Derived.Test.YtmnbmdkoljekpaaKit
import Derived.Test.YtmnbmdkoljekpaaMath1
import Derived.BigCall
import Derived.Deep.QuietTactic
import Derived.BigQuiet
namespace Go.Proofs.Ytmnbmdkoljekpaa
open Go.RowKit

theorem info32 : (Try.prog.info? 21).map (fun i => (i.zero, i.size, i.bytes)) = some (some (.int .i32 0), 1, 4) := by kernel_rfl

/-- 'next' on a text, by lists. -/
theorem next_dec {P : Program} (w : World) (k : Nat) (s : ByteArray) (pos : Nat) (hk : w.heap[k]? = some (.stringIter s pos)) (h : pos < s.size) : ∀ ty,
    (Instr.next (.pointer (some ⟨k, 0, none⟩)) true ty).run P w =
      .ok (.tuple #[.bool true, .int .i64 pos, .int .i32 (M1.dec (s.data.toList.drop pos)).1]) (w.iterAt k s (pos + (M1.dec (s.data.toList.drop pos)).2)) := fun ty => by
  rw [Lib.run_next_any_at w k s pos ty hk h, M1.decode_eq]

theorem drop_ne {l : List UInt8} {k : Nat} (h : k < l.length) : l.drop k ≠ [] := by
  intro e
  have := congrArg List.length e
  simp at this
  omega

set_option maxHeartbeats 1000000 in
set_option maxRecDepth 100000 in
theorem utfRunes (v : Value) (l : List UInt8) (w : World) (hs : Sl w v (u8s l)) (hl : l.length ≤ 1073741824) :
    Calls Try.prog 12 #[v] w fun e w' => ∃ v', e = .returned v' ∧ Sl w' v' (i32s (M1.runes l)) ∧ Below w.heap.size w w' := by
  have hcv := hs.toString 22 9 5 Try.underlying22 Try.underlying5 Try.underlying9
  go_enter Try.func12, Try.ntmps12
  go_wp2
  go_loopw [3] (fun v3 wr => ∃ (pos : Nat) (acc : List Int), wr.ownsRow (w.heap.size + 1) 21 1 v3 acc.length (i32s acc) ∧ wr.heap[w.heap.size]? = some (.stringIter ⟨l.toArray⟩ pos) ∧ Below w.heap.size w wr ∧ M1.runes l = acc ++ M1.runes (l.drop pos) ∧ acc.length ≤ pos ∧ pos ≤ l.length) (fun _ wr => l.length - wr.iterPos w.heap.size)
  case atStart =>
    exact ⟨0, [], World.ownsRow_nil _ _ _ _, World.iter_heap w _ 0, (Below.refl _ w).alloc (Nat.le_refl _) _, by simp, by simp, by simp⟩
  case round =>
    obtain ⟨pos, acc, hown, hit, hbw, hacc0, hal, hpl⟩ := hrel
    have hsz : w.heap.size < wr.heap.size := (Array.getElem?_eq_some_iff.1 hit).1
    have hacc := Lib.hid hacc0
    clear hacc0
    by_cases hp : pos < l.length
    · have hne := drop_ne hp
      have hnx := next_dec (P := Try.prog) wr w.heap.size ⟨l.toArray⟩ pos hit hp
      have hst0 := M1.runes_step _ hne
      have hw1 := M1.dec_pos _ hne
      have hw2 := M1.dec_le _ hne
      have hlt := M1.dec_lt (l.drop pos)
      rw [List.drop_drop] at hst0
      rw [List.length_drop] at hw2
      generalize (M1.dec (l.drop pos)).1 = r at *
      generalize (M1.dec (l.drop pos)).2 = wd at *
      have hst := Lib.hid hst0
      clear hst0
      have hown1 : (wr.iterAt w.heap.size ⟨l.toArray⟩ (pos + wd)).ownsRow (w.heap.size + 1) 21 1 u3 acc.length (i32s acc) := ownsRow_iterAt hown (Nat.lt_succ_self _) _ _
      have hbw1 := Lib.below_iterAt hbw (Nat.le_refl _) ⟨l.toArray⟩ (pos + wd)
      have hit1 := Lib.iterAt_heap wr w.heap.size ⟨l.toArray⟩ pos (pos + wd) hit
      have hsz1 := Lib.iterAt_size wr w.heap.size ⟨l.toArray⟩ (pos + wd)
      rw [← hsz1] at hsz
      clear hsz1 hown hbw
      generalize wr.iterAt w.heap.size ⟨l.toArray⟩ (pos + wd) = w1 at *
      go_wp2_with (at_builtin; refine wpList_app1 w1 _ rfl _ _ 25 21 rfl (w.heap.size + 1) Try.underlying25 info32 rfl _ _ _ rfl hown1 rfl rfl ?c1 ?c2 ?c3 ?_)
      case c1 => omega
      case c2 => omega
      case c3 => omega
      intro v' w2 hown2 hgrow
      have hit2 := kept_row hown1 hgrow (Nat.lt_succ_self _) hit1
      go_wp2
      go_roundw
      case rel =>
        refine ⟨pos + wd, acc ++ [(r : Int)], ?_, ?_, below_row hbw1 hown1 hgrow (by omega) (by omega), ?_, by simp; omega, by omega⟩
        · rw [i32s_append, List.length_append]; exact hown2
        · exact hit2
        · rw [hacc.out, hst.out]; simp
      case measure =>
        rw [iterPos_of hit2, iterPos_of hit]; omega
    · have hnx := fun ty => Lib.run_next_end_at (P := Try.prog) wr w.heap.size ⟨l.toArray⟩ pos ty hit hp
      go_wp2
      go_ret
      have h := hacc.out
      rw [List.drop_of_length_le (by omega), M1.runes_nil, List.append_nil] at h
      rw [h]
      exact ⟨_, rfl, Sl.own hown, hbw⟩

set_option maxHeartbeats 1000000 in
set_option maxRecDepth 100000 in
theorem utfText (v : Value) (rs : List Int) (w : World) (hs : Sl w v (i32s rs)) (hr : ∀ r ∈ rs, -2147483648 ≤ r ∧ r ≤ 2147483647) (hl : rs.length ≤ 1073741824) :
    Calls Try.prog 15 #[v] w fun e w' => e = .returned (.string ⟨(M1.text rs).toArray⟩) ∧ Below w.heap.size w w' := by
  obtain ⟨a, cap, rfl, h2, h3, h4, h5⟩ := hs
  rw [i32s_length] at *
  go_enter Try.func15, Try.ntmps15
  go_wp2
  go_loopw [8] (fun i wr => ∃ k : Nat, k ≤ rs.length ∧ i = .int .i64 k ∧ Lib.IsBuilderF 41 5 w.heap.size w.heap.size (u8s (M1.text (rs.take k))) wr ∧ Below w.heap.size w wr) (fun i _ => rs.length - (intOf i).toNat)
  case atStart =>
    exact ⟨0, by omega, rfl, Lib.IsBuilderF.of (Lib.fresh_isBuilder 41 5 w), (Below.refl _ w).alloc (Nat.le_refl _) _⟩
  case round =>
    obtain ⟨k, hk, rfl, hI, hbw⟩ := hrel
    have htl := M1.text_len_le (rs.take k)
    have htk : (rs.take k).length ≤ k := List.length_take_le _ _
    by_cases hlt : k < rs.length
    · obtain ⟨b, off, rfl, h7⟩ := h5 (ne_of_lt (k := k) (by simpa using hlt))
      have h8 := h7 k (by simpa using hlt)
      have h9 := World.block_lt_of_cell? w _ h8
      have hc : wr.cell? ⟨b, off + k, none⟩ = some (.int .i32 rs[k]) := by
        rw [hbw.cell h9, h8]; simp [i32s]
      have hrk := hr rs[k] (List.getElem_mem hlt)
      have htk1 := Lib.hid (List.take_succ_eq_append_getElem hlt)
      clear h5 h7 h8
      generalize rs[k] = r at *
      go_wp2_with (go_at_call 25; refine (bWriteRune w.heap.size w.heap.size _ r hrk.1 hrk.2 _ hI (by rw [Lib.byteCells_length]; omega) (by have := hbw.size; omega)).mono ?_; rintro e W1 ⟨rfl, h1, b1, k1⟩)
      go_wp2
      go_roundw
      case rel =>
        refine ⟨k + 1, by omega, by go_num, ?_, hbw.trans b1⟩
        rw [htk1.out, M1.text_append, u8s_append]
        have e : M1.text [r] = Lib.encodeRune r := by simp [M1.text]
        rw [e, show u8s (Lib.encodeRune r) = Lib.runeCells r from Lib.byteCells_encodeRune r]
        exact Or.inr h1
      case measure => simp [intOf]; omega
    · go_wp2_with (go_at_call 26; refine (bString w.heap.size w.heap.size _ _ hI (by have := hbw.size; omega)).mono ?_; rintro e W1 ⟨rfl, _, b1, _⟩)
      go_wp2
      go_ret
      rw [List.take_of_length_le (by omega)]
      exact ⟨rfl, hbw.trans b1⟩

set_option maxHeartbeats 1000000 in
set_option maxRecDepth 100000 in
theorem utfRight (v : Value) (l : List UInt8) (w : World) (hs : Sl w v (u8s l)) (hl : l.length ≤ 1073741824) :
    Calls Try.prog 17 #[v] w fun e w' => e = .returned (.string ⟨(M1.right l).toArray⟩) ∧ Below w.heap.size w w' := by
  have hcv := (hs.below ((Below.refl _ w).alloc (Nat.le_refl _) (.cells #[.pointer none, .slice none 0 0] 41))).toString 22 9 5 Try.underlying22 Try.underlying5 Try.underlying9
  go_enter Try.func17, Try.ntmps17
  go_wp2
  go_loopw [4] (fun q wr => ∃ (pos : Nat) (p : Bool) (acc : List UInt8), q = .bool p ∧ Lib.IsBuilderF 41 5 w.heap.size w.heap.size (u8s acc) wr ∧ wr.heap[w.heap.size + 1]? = some (.stringIter ⟨l.toArray⟩ pos) ∧ Below w.heap.size w wr ∧ M1.right l = acc ++ M1.text (M1.mk p (M1.runes (l.drop pos))) ∧ acc.length ≤ 4 * pos ∧ pos ≤ l.length) (fun _ wr => l.length - wr.iterPos (w.heap.size + 1))
  case atStart =>
    refine ⟨0, false, [], rfl, (Lib.IsBuilderF.of (Lib.fresh_isBuilder 41 5 w)).alloc _, ?_, ((Below.refl _ w).alloc (Nat.le_refl _) _).alloc (by simp) _, rfl, by simp, by simp⟩
    have := World.iter_heap (w.alloc (.cells #[.pointer none, .slice none 0 0] 41)) ⟨l.toArray⟩ 0
    simpa using this
  case round =>
    obtain ⟨pos, p, acc, rfl, hI, hit, hbw, hacc0, hal, hpl⟩ := hrel
    have hsz : w.heap.size + 1 < wr.heap.size := (Array.getElem?_eq_some_iff.1 hit).1
    have hacc := Lib.hid hacc0
    clear hacc0 hcv
    by_cases hp : pos < l.length
    · have hne := drop_ne hp
      have hnx := next_dec (P := Try.prog) wr (w.heap.size + 1) ⟨l.toArray⟩ pos hit hp
      have hst0 := M1.runes_step _ hne
      have hw1 := M1.dec_pos _ hne
      have hw2 := M1.dec_le _ hne
      have hlt := M1.dec_lt (l.drop pos)
      rw [List.drop_drop] at hst0
      rw [List.length_drop] at hw2
      generalize (M1.dec (l.drop pos)).1 = r at *
      generalize (M1.dec (l.drop pos)).2 = wd at *
      have hst := Lib.hid hst0
      clear hst0
      have hI1 := hI.iterAt hit (pos + wd)
      have hbw1 := Lib.below_iterAt hbw (Nat.le_succ _) ⟨l.toArray⟩ (pos + wd)
      have hit1 := Lib.iterAt_heap wr (w.heap.size + 1) ⟨l.toArray⟩ pos (pos + wd) hit
      have hsz1 := Lib.iterAt_size wr (w.heap.size + 1) ⟨l.toArray⟩ (pos + wd)
      rw [← hsz1] at hsz
      clear hsz1 hI hbw
      generalize wr.iterAt (w.heap.size + 1) ⟨l.toArray⟩ (pos + wd) = w1 at *
      have hWR := fun (x : Int) (h1 : 0 ≤ x) (h2 : x < 1114112) => bWriteRune w.heap.size w.heap.size _ x (by omega) (by omega) _ hI1 (by rw [u8s_length]; omega) (by omega)
      have hWB := fun (x : Int) => bWriteByte w.heap.size w.heap.size _ x _ hI1 (by rw [u8s_length]; omega) (by omega)
      have hx0 : (0 : Int) ≤ (r : Int) := by omega
      have hx1 : (r : Int) < 1114112 := by omega
      clear hlt
      generalize (r : Int) = x at *
      have fin : ∀ (x p q) (add : List UInt8), M1.right l = acc ++ M1.text (M1.mk p (x :: M1.runes (l.drop (pos + wd)))) → M1.text (if x = 13 then [10] else if x = 10 ∧ p = true then [] else if x = 0 then [65533] else [x]) = add → decide (x = 13) = q → M1.right l = (acc ++ add) ++ M1.text (M1.mk q (M1.runes (l.drop (pos + wd)))) := by
        intro x p q add h1 h2 h3
        rw [h1, M1.mk, M1.text_append, h2, h3, List.append_assoc]
      have hfin := Lib.hid fin
      clear fin
      have hst := Lib.hid (show M1.right l = acc ++ M1.text (M1.mk p (x :: M1.runes (l.drop (pos + wd)))) by rw [hacc.out, hst.out])
      clear hacc
      by_cases h13 : x = 13
      · subst h13
        go_wp2_with (go_at_call 28; refine (hWB 10).mono ?_; rintro e W1 ⟨rfl, h1, b1, k1⟩)
        go_wp2
        go_roundw
        case rel =>
          exact ⟨pos + wd, true, acc ++ [10], rfl, by rw [u8s_append]; exact Or.inr h1, k1.iter hit1 (by omega), hbw1.trans b1, hfin.out _ _ _ _ hst.out rfl rfl, by simp; omega, by omega⟩
        case measure => rw [iterPos_of (k1.iter hit1 (by omega)), iterPos_of hit]; omega
      have h13b : (x == 13) = false := by simpa using h13
      by_cases h10 : x = 10
      · subst h10
        cases p
        · go_wp2_with (go_at_call 25; refine (hWR 10 (by omega) (by omega)).mono ?_; rintro e W1 ⟨rfl, h1, b1, k1⟩)
          go_wp2
          go_roundw
          case rel =>
            exact ⟨pos + wd, false, acc ++ [10], rfl, by rw [u8s_append]; exact Or.inr h1, k1.iter hit1 (by omega), hbw1.trans b1, hfin.out _ _ _ _ hst.out rfl rfl, by simp; omega, by omega⟩
          case measure => rw [iterPos_of (k1.iter hit1 (by omega)), iterPos_of hit]; omega
        · go_wp2
          go_roundw
          case rel =>
            exact ⟨pos + wd, false, acc, rfl, hI1, hit1, hbw1, by have := hfin.out _ _ _ [] hst.out rfl rfl; rwa [List.append_nil] at this, by omega, by omega⟩
          case measure => rw [iterPos_of hit1, iterPos_of hit]; omega
      have h10b : (x == 10) = false := by simpa using h10
      by_cases h0 : x = 0
      · subst h0
        go_wp2_with (go_at_call 25; refine (hWR 65533 (by omega) (by omega)).mono ?_; rintro e W1 ⟨rfl, h1, b1, k1⟩)
        go_wp2
        go_roundw
        case rel =>
          exact ⟨pos + wd, false, acc ++ [239, 191, 189], rfl, by rw [u8s_append]; exact Or.inr h1, k1.iter hit1 (by omega), hbw1.trans b1, hfin.out _ _ _ _ hst.out rfl rfl, by simp; omega, by omega⟩
        case measure => rw [iterPos_of (k1.iter hit1 (by omega)), iterPos_of hit]; omega
      have h0b : (x == 0) = false := by simpa using h0
      go_wp2_with (go_at_call 25; refine (hWR x (by omega) (by omega)).mono ?_; rintro e W1 ⟨rfl, h1, b1, k1⟩)
      go_wp2
      go_roundw
      case rel =>
        have hl4 := (Lib.encodeRuneZ_length x).2
        have e : (Lib.encodeRune x).length = (Lib.encodeRuneZ x).length := by simp [Lib.encodeRune]
        refine ⟨pos + wd, false, acc ++ Lib.encodeRune x, rfl, ?_, k1.iter hit1 (by omega), hbw1.trans b1, hfin.out _ _ _ _ hst.out ?_ (by simp [h13]), by simp; omega, by omega⟩
        · rw [u8s_append, show u8s (Lib.encodeRune x) = Lib.runeCells x from Lib.byteCells_encodeRune x]; exact Or.inr h1
        · rw [if_neg h13, if_neg (fun h => h10 h.1), if_neg h0]; simp [M1.text]
      case measure => rw [iterPos_of (k1.iter hit1 (by omega)), iterPos_of hit]; omega
    · have hnx := fun ty => Lib.run_next_end_at (P := Try.prog) wr (w.heap.size + 1) ⟨l.toArray⟩ pos ty hit hp
      go_wp2_with (go_at_call 26; refine (bString w.heap.size w.heap.size _ _ hI (by have := hbw.size; omega)).mono ?_; rintro e W1 ⟨rfl, _, b1, _⟩)
      go_wp2
      go_ret
      have h := hacc.out
      rw [List.drop_of_length_le (by omega), M1.runes_nil] at h
      rw [h]
      exact ⟨by simp [M1.mk, M1.text], hbw.trans b1⟩

set_option maxHeartbeats 1000000 in
theorem utfSmall (c : UInt8) (w : World) :
    Calls Try.prog 30 #[.int .u8 (c.toNat : Int)] w fun e w' => e = .returned (.int .u8 ((M1.small c).toNat : Int)) ∧ w' = w := by
  have h := M1.small_nat c
  have hc := c.toNat_lt
  generalize (M1.small c).toNat = m at *
  generalize c.toNat = n at *
  have hc : n < 256 := hc
  by_cases h0 : 65 ≤ n ∧ n ≤ 90
  · rw [if_pos h0] at h
    obtain ⟨h1, h2⟩ := h0
    subst h
    go_enter Try.func30, Try.ntmps30
    go_wp2
    go_ret
    refine ⟨?_, rfl⟩
    show Ending.returned (.int .u8 ((n : Int) - 65 + 97)) = _
    rw [show (n : Int) - 65 + 97 = ((n + 32 : Nat) : Int) by omega]
  · rw [if_neg h0] at h
    subst h
    go_enter Try.func30, Try.ntmps30
    go_wp2
    all_goals go_ret
    all_goals exact ⟨rfl, rfl⟩

/-- Does the text begin with the form of 65533? -/
def spelt3 (s : ByteArray) : Bool := s.data.toList.take 3 == [239, 191, 189]

set_option maxHeartbeats 1000000 in
set_option maxRecDepth 100000 in
theorem utfSpelt (s : ByteArray) (w : World) :
    Calls Try.prog 29 #[.string s] w fun e w' => e = .returned (.bool (spelt3 s)) ∧ w' = w := by
  go_enter Try.func29, Try.ntmps29
  go_wp2_with (go_at_call 34; refine (hasPrefix_any _ _ _).mono ?_; rintro e w1 ⟨rfl, rfl⟩)
  go_ret
  refine ⟨?_, rfl⟩
  rw [← Lib.hasPrefix_of_take]
  unfold spelt3
  by_cases h : s.data.toList.take 3 = [239, 191, 189]
  · have : 3 ≤ s.data.toList.length := by have := congrArg List.length h; rw [List.length_take] at this; simp at this; simp; omega
    simp [h]
    simpa using this
  · have : (s.data.toList.take 3 == [239, 191, 189]) = false := by simpa using h
    simp [this]

set_option maxHeartbeats 1000000 in
set_option maxRecDepth 100000 in
theorem utfPrefix (s p : ByteArray) (w : World) (hs : s.size ≤ 9223372036854775807) (hp : p.size ≤ 9223372036854775807) :
    Calls Try.prog 23 #[.string s, .string p] w fun e w' => e = .returned (.bool (M1.prefixB s.data.toList p.data.toList)) ∧ Below w.heap.size w w' := by
  by_cases hlen : s.size < p.size
  · have h := M1.prefixB_short s.data.toList p.data.toList hlen
    generalize M1.prefixB s.data.toList p.data.toList = q at *
    subst h
    go_enter Try.func23, Try.ntmps23
    go_wp2
    go_ret
    exact ⟨rfl, Below.refl _ _⟩
  · have hle : p.size ≤ s.size := by omega
    clear hlen
    go_enter Try.func23, Try.ntmps23
    go_wp2
    go_loopw [13] (fun i wr => ∃ k : Nat, k ≤ p.size ∧ i = .int .i64 k ∧ Below w.heap.size w wr ∧ Hid (M1.fold (s.data.toList.take k) = p.data.toList.take k)) (fun i _ => p.size - (intOf i).toNat)
    case atStart => exact ⟨0, by omega, rfl, Below.refl _ _, by simp [Hid, M1.fold]⟩
    case round =>
      obtain ⟨k, hk, rfl, hbw, hF⟩ := hrel
      by_cases hlt : k < p.size
      · have hls : k < s.size := by omega
        by_cases heq : M1.small s[k] = p[k]
        · have hb : (((M1.small s[k]).toNat : Int) != (p[k].toNat : Int)) = false := by rw [heq]; simp
          go_wp2
          go_quiet ((go_at_call 30; exact Calls.quiet_of_same (utfSmall _ _)))
          go_wp2
          go_roundw
          case rel =>
            refine ⟨k + 1, by omega, by go_num, below_drewN hbw _, ?_⟩
            show M1.fold _ = _
            have hF := hF.out
            have e1 : s.data.toList.take (k + 1) = s.data.toList.take k ++ [s[k]] := List.take_succ_eq_append_getElem (l := s.data.toList) hls
            have e2 : p.data.toList.take (k + 1) = p.data.toList.take k ++ [p[k]] := List.take_succ_eq_append_getElem (l := p.data.toList) hlt
            rw [e1, e2, ← hF, ← heq]
            simp [M1.fold]
          case measure => simp [intOf]; omega
        · have h := M1.prefixB_diff s.data.toList p.data.toList k hlt hls heq
          have hb : (((M1.small s[k]).toNat : Int) != (p[k].toNat : Int)) = true := by
            rw [bne_iff_ne]; intro h; exact heq (UInt8.toNat_inj.1 (by omega))
          have h := Lib.hid h
          clear heq
          go_wp2
          go_quiet ((go_at_call 30; exact Calls.quiet_of_same (utfSmall _ _)))
          go_wp2
          go_ret
          exact ⟨by rw [h.out]; rfl, below_drewN hbw _⟩
      · obtain rfl : k = p.size := by omega
        have hF := hF.out
        rw [List.take_of_length_le (l := p.data.toList) (show p.data.toList.length ≤ p.size from Nat.le_refl _)] at hF
        have h := M1.prefixB_yes s.data.toList p.data.toList hle hF
        have h := Lib.hid h
        clear hF
        go_wp2
        go_ret
        exact ⟨by rw [h.out]; rfl, hbw⟩

set_option maxHeartbeats 1000000 in
set_option maxRecDepth 100000 in
theorem utfFold (s : ByteArray) (w : World) (hs : s.size ≤ 140737488355328) :
    Calls Try.prog 22 #[.string s] w fun e w' => e = .returned (.string ⟨(M1.fold s.data.toList).toArray⟩) ∧ Below w.heap.size w w' := by
  have hcv := Lib.run_convert_string_bytes (P := Try.prog) w 9 22 5 s Try.underlying9 Try.underlying22 Try.underlying5
  have hcap := grownCap_ge w s.size 0 5
  have hcap2 := grownCap_le_maxLen w s.size 0 5 (by unfold maxLen; omega)
  unfold maxLen at hcap2
  have hM := MutRow.bytes w 5 s
  have hB := below_bytesWorld w 5 s
  have hz := Lib.bytesWorld_size w 5 s
  generalize grownCap w s.size 0 5 = cap at *
  generalize Lib.bytesWorld w 5 s = w0 at *
  have hz := Lib.hid hz
  go_enter Try.func22, Try.ntmps22
  go_wp2
  go_loopw [10] (fun i wr => ∃ k : Nat, k ≤ s.size ∧ i = .int .i64 k ∧ Below w.heap.size w wr ∧ MutRow wr w.heap.size (u8s (M1.foldTo s.data.toList k))) (fun i _ => s.size - (intOf i).toNat)
  case atStart => exact ⟨0, by omega, rfl, hB, by rw [M1.foldTo_zero]; exact hM⟩
  case round =>
    obtain ⟨k, hk, rfl, hbw, hR⟩ := hrel
    have hlen : (u8s (M1.foldTo s.data.toList k)).length ≤ s.size ∧ s.size ≤ (u8s (M1.foldTo s.data.toList k)).length := by
      have : s.data.toList.length = s.size := rfl
      rw [u8s_length, M1.foldTo_length]
      omega
    by_cases hlt : k < s.size
    · have hls : k < s.data.toList.length := hlt
      obtain ⟨hc, hf⟩ := hR.at (u8s_get _ _ _ (M1.foldTo_get _ k hls))
      have hset := hR.set (k := k) (by omega) (.int .u8 ((M1.small s.data.toList[k]).toNat : Int))
      rw [u8s_set, M1.foldTo_set _ k hls] at hset
      clear hR hlen
      generalize s.data.toList[k] = c at *
      go_wp2_with (go_at_call 30; refine (utfSmall _ _).mono ?_; rintro e w1 ⟨rfl, rfl⟩)
      go_roundw
      case rel => exact ⟨k + 1, by omega, by go_num, hbw.setCell (Nat.le_refl _) _, hset⟩
      case measure => simp [intOf]; omega
    · obtain rfl : k = s.size := by omega
      rw [M1.foldTo_all _ _ (show s.data.toList.length ≤ s.size from Nat.le_refl _)] at hR
      have hfl : (u8s (M1.fold s.data.toList)).length = s.size := by rw [u8s_length]; simp [M1.fold]
      have hsl := hR.sl (cap := cap) (by omega) hcap2
      rw [hfl] at hsl
      have hcv2 := hsl.toString 22 9 5 Try.underlying22 Try.underlying5 Try.underlying9
      clear hfl
      go_wp2
      go_ret
      exact ⟨rfl, hbw⟩

set_option maxHeartbeats 1000000 in
set_option maxRecDepth 100000 in
theorem utfIs (s : ByteArray) (w : World) (hs : s.size ≤ 9223372036854775807) :
    Calls Try.prog 19 #[.string s] w fun e w' => e = .returned (.bool (M1.isB s.data.toList)) ∧ Below w.heap.size w w' := by
  go_enter Try.func19, Try.ntmps19
  go_wp2
  go_loopw [] (fun wr => ∃ pos : Nat, pos ≤ s.size ∧ wr.heap[w.heap.size]? = some (.stringIter s pos) ∧ Below w.heap.size w wr ∧ Hid (M1.isB s.data.toList = M1.isB (s.data.toList.drop pos))) (fun wr => s.size - wr.iterPos w.heap.size)
  case atStart => exact ⟨0, by omega, World.iter_heap w s 0, (Below.refl _ w).alloc (Nat.le_refl _) _, rfl⟩
  case round =>
    obtain ⟨pos, hpl, hit, hbw, hB⟩ := hrel
    have hsz : w.heap.size < wr.heap.size := (Array.getElem?_eq_some_iff.1 hit).1
    by_cases hp : pos < s.size
    · have hp' : pos < s.data.toList.length := hp
      have hne := drop_ne hp'
      have hnx := next_dec (P := Try.prog) wr w.heap.size s pos hit hp
      have hst0 := M1.isB_step _ hne
      have hw1 := M1.dec_pos _ hne
      have hw2 := M1.dec_le _ hne
      have hlt := M1.dec_lt (s.data.toList.drop pos)
      rw [List.drop_drop] at hst0
      rw [List.length_drop, show s.data.toList.length = s.size from rfl] at hw2
      rw [← hB.out] at hst0
      generalize (M1.dec (s.data.toList.drop pos)).1 = r at *
      generalize (M1.dec (s.data.toList.drop pos)).2 = wd at *
      have hbw1 := Lib.below_iterAt hbw (Nat.le_refl _) s (pos + wd)
      have hit1 := Lib.iterAt_heap wr w.heap.size s pos (pos + wd) hit
      generalize wr.iterAt w.heap.size s (pos + wd) = w1 at *
      have hst := Lib.hid hst0
      clear hst0 hne hB
      by_cases h0 : r = 0
      · subst h0
        go_wp2
        go_ret
        exact ⟨by rw [hst.out]; rfl, hbw1⟩
      by_cases h13 : r = 13
      · subst h13
        go_wp2
        go_ret
        exact ⟨by rw [hst.out]; rfl, hbw1⟩
      have h0b : ((r : Int) == 0) = false := by simpa using h0
      have h13b : ((r : Int) == 13) = false := by simp; omega
      by_cases hf : r = 65533
      · subst hf
        have hq : ∃ q, spelt3 (s.extract pos s.size) = q ∧ Hid (M1.isB s.data.toList = (q && M1.isB (s.data.toList.drop (pos + wd)))) := by
          refine ⟨_, rfl, ?_⟩
          show _ = _
          rw [hst.out, spelt3, extract_end]
          simp
        obtain ⟨q, hq1, hq2⟩ := hq
        cases q
        · go_wp2_with (go_at_call 29; refine (utfSpelt _ _).mono ?_; rintro e w2 ⟨rfl, rfl⟩)
          go_ret
          exact ⟨by rw [hq2.out]; rfl, hbw1⟩
        · go_wp2_with (go_at_call 29; refine (utfSpelt _ _).mono ?_; rintro e w2 ⟨rfl, rfl⟩)
          go_roundw
          case rel => exact ⟨pos + wd, by omega, hit1, hbw1, hq2⟩
          case measure => rw [iterPos_of hit1, iterPos_of hit]; omega
      · have hfb : ((r : Int) == 65533) = false := by simp; omega
        have hB : Hid (M1.isB s.data.toList = M1.isB (s.data.toList.drop (pos + wd))) := by
          show _ = _
          rw [hst.out]; simp [h0, h13, hf]
        go_wp2
        go_roundw
        case rel => exact ⟨pos + wd, by omega, hit1, hbw1, hB⟩
        case measure => rw [iterPos_of hit1, iterPos_of hit]; omega
    · have hnx := fun ty => Lib.run_next_end_at (P := Try.prog) wr w.heap.size s pos ty hit hp
      go_wp2
      go_ret
      have h := hB.out
      rw [List.drop_of_length_le (show s.data.toList.length ≤ pos from by have : s.data.toList.length = s.size := rfl; omega), M1.isB_nil] at h
      exact ⟨by rw [h]; rfl, hbw⟩
end Go.Proofs.Ytmnbmdkoljekpaa
