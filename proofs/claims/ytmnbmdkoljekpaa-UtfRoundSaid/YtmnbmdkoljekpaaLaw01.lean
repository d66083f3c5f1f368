/- The statements of layer 1: each law's walk. -/
import Derived.Test.YtmnbmdkoljekpaaRef01c
import Derived.Test.YtmnbmdkoljekpaaUtf
namespace Go.Proofs.Ytmnbmdkoljekpaa
open Go.RowKit

/-! ### What came in -/
theorem add_plain' (b off j : Nat) : (⟨b, off, none⟩ : Addr).add j = ⟨b, off + j, none⟩ := by unfold Addr.add; split <;> simp_all

theorem sl_row {k : IntKind} {w : World} {x : Addr} {len cap : Nat} {zs : List Int} (hl : len ≤ cap) (hm : cap ≤ maxLen) (hz : zs.length = cap) (hc : ∀ i, i < zs.length → w.cell? (x.add i) = some (.int k (zs.getD i 0))) :
    Sl w (.slice (some x) len cap) ((zs.take len).map (Value.int k)) := by
  have hlen : ((zs.take len).map (Value.int k)).length = len := by simp; omega
  unfold maxLen at hm
  refine ⟨some x, cap, by rw [hlen], by rw [hlen]; exact hl, by omega, (fun h => by cases h), fun hne => ?_⟩
  have hpos : 0 < len := by
    rcases Nat.eq_zero_or_pos len with h | h
    · subst h; simp at hne
    · exact h
  obtain ⟨b, off, spot⟩ := x
  have hspot : spot = none := by simpa [Addr.add] using World.cell?_spot (hc 0 (by omega))
  subst hspot
  refine ⟨b, off, rfl, fun j hj => ?_⟩
  rw [hlen] at hj
  have h := hc j (by omega)
  rw [add_plain'] at h
  rw [h]
  simp [List.getD_eq_getElem?_getD, List.getElem?_eq_getElem (show j < zs.length by omega)]

theorem sl_row8 {w : World} {x : Addr} {len cap : Nat} {zs : List Int} (hl : len ≤ cap) (hm : cap ≤ maxLen) (hz : zs.length = cap) (hc : ∀ i, i < zs.length → w.cell? (x.add i) = some (.int .u8 (zs.getD i 0))) (hw : ∀ n ∈ zs, (Lit.int .u8 n).wf = true) :
    Sl w (.slice (some x) len cap) (u8s ((zs.take len).map fun n => n.toNat.toUInt8)) := by
  have h := sl_row hl hm hz hc
  have e : u8s ((zs.take len).map fun n => n.toNat.toUInt8) = (zs.take len).map (Value.int .u8) := by
    simp only [u8s, Lib.byteCells, List.map_map]
    apply List.map_congr_left
    intro n hn
    have h1 := hw n (List.mem_of_mem_take hn)
    have h2 : IntKind.u8.min = 0 := rfl
    have h3 : IntKind.u8.max = 255 := rfl
    simp only [Lit.wf, Bool.and_eq_true, decide_eq_true_eq, h2, h3] at h1
    have h4 := M1.toNat_u8 n.toNat (by omega)
    simp only [Function.comp, h4]
    congr 1
    omega
  rw [e]; exact h

/-! ### few, lives -/
set_option maxHeartbeats 1000000 in
theorem law01Few (v : Value) (l : List UInt8) (w : World) (hs : Sl w v (u8s l)) :
    Calls Try.prog 10 #[v] w fun e w' => ∃ v', e = .returned v' ∧ Sl w v' (u8s (l.take 200)) ∧ w' = w := by
  have hs0 := hs
  obtain ⟨a, cap, rfl, h2, h3, h4, -⟩ := hs
  rw [u8s_length] at *
  by_cases h : 200 < l.length
  · have ht := Lib.hid (show Sl w (.slice a 200 cap) (u8s (l.take 200)) from by
      have := hs0.take 200 (by omega)
      simpa [u8s, Lib.byteCells, List.map_take] using this)
    clear hs0
    go_enter Try.func10, Try.ntmps10
    go_wp2
    go_ret
    exact ⟨_, rfl, ht.out, rfl⟩
  · rw [List.take_of_length_le (by omega)]
    go_enter Try.func10, Try.ntmps10
    go_wp2
    go_ret
    exact ⟨_, rfl, hs0, rfl⟩

theorem right_ex : M1.right [97, 13, 10, 98, 255] = [97, 10, 98, 239, 191, 189] := by
  unfold M1.right
  have d1 : M1.dec [97, 13, 10, 98, 255] = (97, 1) := by decide
  have d2 : M1.dec [13, 10, 98, 255] = (13, 1) := by decide
  have d3 : M1.dec [10, 98, 255] = (10, 1) := by decide
  have d4 : M1.dec [98, 255] = (98, 1) := by decide
  have d5 : M1.dec [255] = (65533, 1) := by decide
  rw [M1.runes_step _ (by simp), d1, show List.drop (97, 1).2 ([97, 13, 10, 98, 255] : List UInt8) = [13, 10, 98, 255] from rfl,
    M1.runes_step _ (by simp), d2, show List.drop (13, 1).2 ([13, 10, 98, 255] : List UInt8) = [10, 98, 255] from rfl,
    M1.runes_step _ (by simp), d3, show List.drop (10, 1).2 ([10, 98, 255] : List UInt8) = [98, 255] from rfl,
    M1.runes_step _ (by simp), d4, show List.drop (98, 1).2 ([98, 255] : List UInt8) = [255] from rfl,
    M1.runes_step _ (by simp), d5, show List.drop (65533, 1).2 ([255] : List UInt8) = [] from rfl, M1.runes_nil]
  decide
theorem isB_ex : M1.isB [97] = true := by
  have d : M1.dec [97] = (97, 1) := by decide
  rw [M1.isB_step _ (by simp), d, show List.drop (97, 1).2 ([97] : List UInt8) = [] from rfl, M1.isB_nil]
  decide
theorem Sl.fresh' (w : World) (e : TypeId) (xs : List Value) (n : Nat) (hn : xs.length = n) (h : n ≤ 4000) : Sl (w.alloc (.cells xs.toArray e)) (.slice (some ⟨w.heap.size, 0, none⟩) n n) xs := by
  subst hn
  refine ⟨_, xs.length, rfl, Nat.le_refl _, by omega, (fun h => by cases h), fun _ => ⟨_, 0, rfl, fun j hj => ?_⟩⟩
  rw [Nat.zero_add, World.cell?_alloc_at _ _ _ _ rfl]
  simp [hj]

set_option maxHeartbeats 1000000 in
set_option maxRecDepth 100000 in
theorem law01Lives (w : World) : Calls Try.prog 14 #[] w fun e w' => e = .returned (.bool true) ∧ Below w.heap.size w w' := by
  have hS := Sl.fresh' w 5 (u8s [97, 13, 10, 98, 255]) 5 rfl (by omega)
  have hB := (Below.refl w.heap.size w).alloc (Nat.le_refl _) (.cells (u8s [97, 13, 10, 98, 255]).toArray 5)
  have hR := utfRight _ [97, 13, 10, 98, 255] _ hS (by simp)
  rw [right_ex] at hR
  have hR := Lib.hid hR
  have hB := Lib.hid hB
  clear hS
  go_enter Try.func14, Try.ntmps14
  go_wp2_with fail
  refine hR.out.mono ?_
  rintro e w1 ⟨rfl, hb1⟩
  go_wp2_with fail
  refine (utfFold _ w1 (by decide)).mono ?_
  rintro e w2 ⟨rfl, hb2⟩
  go_wp2_with fail
  refine (utfIs _ w2 (by decide)).mono ?_
  rintro e w3 ⟨rfl, hb3⟩
  rw [show (ByteArray.mk #[97]).data.toList = [97] from rfl, isB_ex]
  go_wp2
  go_ret
  have s1 := hB.out.size
  have s2 := hb1.size
  have s3 := hb2.size
  exact ⟨rfl, ((hB.out.trans (hb1.mono s1)).trans (hb2.mono (Nat.le_trans s1 s2))).trans (hb3.mono (Nat.le_trans s1 (Nat.le_trans s2 s3)))⟩

theorem bt {w w1 w2 : World} (h : Below w.heap.size w w1) (k : Below w1.heap.size w1 w2) : Below w.heap.size w w2 := h.trans (k.mono h.size)
theorem owns_nil32 (w : World) : Sl w (.slice none 0 0) (i32s []) := Sl.nil w

set_option maxHeartbeats 1000000 in
set_option maxRecDepth 100000 in
theorem law01UtfRunes (v : Value) (l : List UInt8) (w : World) (hs : Sl w v (u8s l)) :
    Calls Try.prog 3 #[v] w fun e w' => e = .returned (.bool true) ∧ Below w.heap.size w w' := by
  go_enter Try.func3, Try.ntmps3
  go_wp2_with fail
  refine (law01Few v l w hs).mono ?_
  rintro e w0 ⟨v1, rfl, h1, rfl⟩
  have hl : (l.take 200).length ≤ 200 := List.length_take_le _ _
  generalize l.take 200 = l1 at *
  go_wp2_with fail
  refine (utfRunes v1 l1 w0 h1 (by omega)).mono ?_
  rintro e w1 ⟨v2, rfl, h2, b1⟩
  go_wp2_with fail
  refine (ref01Runes v1 l1 w1 (h1.below b1) (by omega)).mono ?_
  rintro e w2 ⟨v3, rfl, h3, b2⟩
  go_wp2_with fail
  refine (ref01Same v2 v3 _ _ w2 (h2.below b2) h3).mono ?_
  rintro e w3 ⟨rfl, b3⟩
  rw [M1.sameB_self]
  go_wp2_with fail
  refine (law01Lives w3).mono ?_
  rintro e w4 ⟨rfl, b4⟩
  go_wp2
  go_ret
  exact ⟨rfl, bt (bt (bt b1 b2) b3) b4⟩

set_option maxHeartbeats 1000000 in
set_option maxRecDepth 100000 in
theorem law01UtfTexts (v : Value) (rs : List Int) (w : World) (hs : Sl w v (i32s rs)) (hr : ∀ r ∈ rs, -2147483648 ≤ r ∧ r ≤ 2147483647) :
    Calls Try.prog 4 #[v] w fun e w' => e = .returned (.bool true) ∧ Below w.heap.size w w' := by
  have hs0 := hs
  obtain ⟨a, cap, rfl, h2, h3, h4, -⟩ := hs
  simp only [i32s_length] at *
  by_cases h : 60 < rs.length
  · have ht : Sl w (.slice a 60 cap) (i32s (rs.take 60)) := by
      have := hs0.take 60 (by omega)
      simpa [i32s, List.map_take] using this
    have hr2 : ∀ r ∈ rs.take 60, -2147483648 ≤ r ∧ r ≤ 2147483647 := fun r hm => hr r (List.mem_of_mem_take hm)
    have hl : (rs.take 60).length ≤ 60 := List.length_take_le _ _
    have ht := Lib.hid ht
    have hr2 := Lib.hid hr2
    clear hs0 hr
    generalize rs.take 60 = r1 at *
    go_enter Try.func4, Try.ntmps4
    go_wp2_with fail
    refine (utfText _ r1 w ht.out hr2.out (by omega)).mono ?_
    rintro e w1 ⟨rfl, b1⟩
    go_wp2_with fail
    refine (ref01Text _ r1 w1 (ht.out.below b1) hr2.out (by omega)).mono ?_
    rintro e w2 ⟨rfl, b2⟩
    go_wp2_with fail
    refine (law01Lives w2).mono ?_
    rintro e w4 ⟨rfl, b4⟩
    go_wp2
    go_ret
    exact ⟨rfl, bt (bt b1 b2) b4⟩
  · have hr2 := Lib.hid hr
    have hs0 := Lib.hid hs0
    clear hr
    go_enter Try.func4, Try.ntmps4
    go_wp2_with fail
    refine (utfText _ rs w hs0.out hr2.out (by omega)).mono ?_
    rintro e w1 ⟨rfl, b1⟩
    go_wp2_with fail
    refine (ref01Text _ rs w1 (hs0.out.below b1) hr2.out (by omega)).mono ?_
    rintro e w2 ⟨rfl, b2⟩
    go_wp2_with fail
    refine (law01Lives w2).mono ?_
    rintro e w4 ⟨rfl, b4⟩
    go_wp2
    go_ret
    exact ⟨rfl, bt (bt b1 b2) b4⟩

set_option maxHeartbeats 1000000 in
set_option maxRecDepth 100000 in
theorem law01UtfRights (v : Value) (l : List UInt8) (w : World) (hs : Sl w v (u8s l)) :
    Calls Try.prog 5 #[v] w fun e w' => e = .returned (.bool true) ∧ Below w.heap.size w w' := by
  go_enter Try.func5, Try.ntmps5
  go_wp2_with fail
  refine (law01Few v l w hs).mono ?_
  rintro e w0 ⟨v1, rfl, h1, rfl⟩
  have hl : (l.take 200).length ≤ 200 := List.length_take_le _ _
  generalize l.take 200 = l1 at *
  have hrl := M1.right_len l1
  have hrr := Lib.hid (M1.right_right l1)
  have hib := Lib.hid (M1.isB_right l1)
  go_wp2_with fail
  refine (utfRight v1 l1 w0 h1 (by omega)).mono ?_
  rintro e w1 ⟨rfl, b1⟩
  go_wp2_with fail
  refine (ref01Right v1 l1 w1 (h1.below b1) (by omega)).mono ?_
  rintro e w2 ⟨rfl, b2⟩
  generalize M1.right l1 = r at *
  go_wp2_with fail
  refine (utfIs ⟨r.toArray⟩ w2 (show r.length ≤ _ by omega)).mono ?_
  rintro e w3 ⟨rfl, b3⟩
  rw [show M1.isB (ByteArray.mk r.toArray).data.toList = true from hib.out]
  have hcv := Lib.run_convert_string_bytes (P := Try.prog) w3 9 22 5 ⟨r.toArray⟩ Try.underlying9 Try.underlying22 Try.underlying5
  have hS := Sl.bytes w3 5 ⟨r.toArray⟩ (show r.length ≤ _ by omega)
  have hB := below_bytesWorld w3 5 ⟨r.toArray⟩
  generalize grownCap w3 (ByteArray.mk r.toArray).size 0 5 = cap at *
  generalize Lib.bytesWorld w3 5 ⟨r.toArray⟩ = w4 at *
  go_wp2_with fail
  refine (utfRight _ r w4 hS (by omega)).mono ?_
  rintro e w5 ⟨rfl, b5⟩
  rw [hrr.out]
  go_wp2_with fail
  refine (law01Lives w5).mono ?_
  rintro e w6 ⟨rfl, b6⟩
  go_wp2
  go_ret
  exact ⟨rfl, bt (bt (bt (bt (bt b1 b2) b3) hB) b5) b6⟩

/-- What '[]byte(s)' leaves, said without the row's size. -/
theorem conv_bytes (w : World) (s : ByteArray) (hs : s.size ≤ 9223372036854775807) : ∃ v w', (convert 9 22 (.string s)).run Try.prog w = .ok v w' ∧ Sl w' v (u8s s.data.toList) ∧ Below w.heap.size w w' :=
  ⟨_, _, Lib.run_convert_string_bytes (P := Try.prog) w 9 22 5 s Try.underlying9 Try.underlying22 Try.underlying5, Sl.bytes w 5 s hs, below_bytesWorld w 5 s⟩
theorem conv_back {w : World} {v : Value} {l : List UInt8} (h : Sl w v (u8s l)) : (convert 22 9 v).run Try.prog w = .ok (.string ⟨l.toArray⟩) w :=
  h.toString 22 9 5 Try.underlying22 Try.underlying5 Try.underlying9

set_option maxHeartbeats 2000000 in
set_option maxRecDepth 100000 in
theorem law01UtfIs (s p : ByteArray) (w : World) (hs : s.size ≤ 9223372036854775807) (hp : p.size ≤ 9223372036854775807) :
    Calls Try.prog 6 #[.string s, .string p] w fun e w' => e = .returned (.bool true) ∧ Below w.heap.size w w' := by
  obtain ⟨x1, w1, hc1, s1, b1⟩ := conv_bytes w s hs
  go_enter Try.func6, Try.ntmps6
  go_wp2_with fail
  refine (law01Few x1 _ w1 s1).mono ?_
  rintro e w0 ⟨x2, rfl, h1, rfl⟩
  have hl : (s.data.toList.take 200).length ≤ 200 := List.length_take_le _ _
  generalize s.data.toList.take 200 = l at *
  have hc2 := conv_back h1
  obtain ⟨x3, w2, hc3, s2, b2⟩ := conv_bytes w0 p hp
  go_wp2_with fail
  refine (law01Few x3 _ w2 s2).mono ?_
  rintro e w3 ⟨x4, rfl, h2, rfl⟩
  have hm : (p.data.toList.take 200).length ≤ 200 := List.length_take_le _ _
  generalize p.data.toList.take 200 = m at *
  have hc4 := conv_back h2
  clear hc1 hc2 hc3 s1 s2 h1 h2
  by_cases hle : m.length ≤ l.length
  · have hext : ((ByteArray.mk l.toArray).extract 0 m.length).data.toList = l.take m.length := by rw [Lib.extract_data]; simp
    have hpre := Lib.hid (show M1.prefixB l m = (M1.fold (l.take m.length) == m) by simp [M1.prefixB, hle])
    have hlm : (l.take m.length).length ≤ 200 := Nat.le_trans (List.length_take_le _ _) hm
    go_wp2_with fail
    refine (ref01Fold _ w3 ?_).mono ?_
    · show ((ByteArray.mk l.toArray).extract 0 m.length).data.toList.length ≤ _
      rw [hext]; omega
    rintro e w4 ⟨rfl, b4⟩
    rw [hext]
    clear hext
    generalize M1.fold (l.take m.length) = f at *
    go_wp2_with fail
    refine (utfIs ⟨l.toArray⟩ w4 (show l.length ≤ _ by omega)).mono ?_
    rintro e w5 ⟨rfl, b5⟩
    go_wp2_with fail
    refine (ref01Is ⟨l.toArray⟩ w5 (show l.length ≤ _ by omega)).mono ?_
    rintro e w6 ⟨rfl, b6⟩
    generalize M1.isB (ByteArray.mk l.toArray).data.toList = q at *
    go_wp2_with fail
    refine (utfFold ⟨l.toArray⟩ w6 (show l.length ≤ _ by omega)).mono ?_
    rintro e w7 ⟨rfl, b7⟩
    go_wp2_with fail
    refine (ref01Fold ⟨l.toArray⟩ w7 (show l.length ≤ _ by omega)).mono ?_
    rintro e w8 ⟨rfl, b8⟩
    generalize M1.fold (ByteArray.mk l.toArray).data.toList = lf at *
    go_wp2_with fail
    refine (utfPrefix ⟨l.toArray⟩ ⟨m.toArray⟩ w8 (show l.length ≤ _ by omega) (show m.length ≤ _ by omega)).mono ?_
    rintro e w9 ⟨rfl, b9⟩
    rw [show M1.prefixB (ByteArray.mk l.toArray).data.toList (ByteArray.mk m.toArray).data.toList = _ from hpre.out]
    by_cases hfm : f = m
    · subst hfm
      go_wp2_with fail
      refine (law01Lives w9).mono ?_
      rintro e w10 ⟨rfl, b10⟩
      go_wp2
      go_ret
      exact ⟨rfl, bt (bt (bt (bt (bt (bt (bt (bt b1 b2) b4) b5) b6) b7) b8) b9) b10⟩
    · have hb : (f == m) = false := by simpa using hfm
      clear hfm
      go_wp2_with fail
      refine (law01Lives w9).mono ?_
      rintro e w10 ⟨rfl, b10⟩
      go_wp2
      go_ret
      exact ⟨rfl, bt (bt (bt (bt (bt (bt (bt (bt b1 b2) b4) b5) b6) b7) b8) b9) b10⟩
  · have hpre := Lib.hid (M1.prefixB_short l m (by omega))
    have hd : decide (m.length ≤ l.length) = false := decide_eq_false hle
    have hd2 : decide ((m.length : Int) ≤ (l.length : Int)) = false := decide_eq_false (by omega)
    go_wp2_with fail
    refine (utfIs ⟨l.toArray⟩ w3 (show l.length ≤ _ by omega)).mono ?_
    rintro e w5 ⟨rfl, b5⟩
    go_wp2_with fail
    refine (ref01Is ⟨l.toArray⟩ w5 (show l.length ≤ _ by omega)).mono ?_
    rintro e w6 ⟨rfl, b6⟩
    generalize M1.isB (ByteArray.mk l.toArray).data.toList = q at *
    go_wp2_with fail
    refine (utfFold ⟨l.toArray⟩ w6 (show l.length ≤ _ by omega)).mono ?_
    rintro e w7 ⟨rfl, b7⟩
    go_wp2_with fail
    refine (ref01Fold ⟨l.toArray⟩ w7 (show l.length ≤ _ by omega)).mono ?_
    rintro e w8 ⟨rfl, b8⟩
    generalize M1.fold (ByteArray.mk l.toArray).data.toList = lf at *
    go_wp2_with fail
    refine (utfPrefix ⟨l.toArray⟩ ⟨m.toArray⟩ w8 (show l.length ≤ _ by omega) (show m.length ≤ _ by omega)).mono ?_
    rintro e w9 ⟨rfl, b9⟩
    rw [show M1.prefixB (ByteArray.mk l.toArray).data.toList (ByteArray.mk m.toArray).data.toList = _ from hpre.out]
    go_wp2_with fail
    refine (law01Lives w9).mono ?_
    rintro e w10 ⟨rfl, b10⟩
    go_wp2
    go_ret
    exact ⟨rfl, bt (bt (bt (bt (bt (bt (bt b1 b2) b5) b6) b7) b8) b9) b10⟩

theorem i32s_one (l : List Int) : ∀ u ∈ i32s l, u.oneCell' = true := by
  intro u hu
  simp only [i32s, List.mem_map] at hu
  obtain ⟨x, _, rfl⟩ := hu
  rfl
theorem runes_right_only (l : List UInt8) : M1.runes (M1.right l) = M1.mk false (M1.runes l) := by
  have h := M1.runes_right l []
  simp only [List.append_nil, M1.runes_nil] at h
  exact h
theorem runes_right_two (l m : List UInt8) : M1.runes (M1.right l ++ M1.right m) = M1.mk false (M1.runes l) ++ M1.mk false (M1.runes m) := by
  rw [M1.runes_right, runes_right_only]
theorem cut100 {w : World} {a : Option Addr} {cap : Nat} {l : List UInt8} (h : Sl w (.slice a l.length cap) (u8s l)) (hl : 100 < l.length) : Sl w (.slice a 100 cap) (u8s (l.take 100)) := by
  have := h.take 100 (by omega)
  simpa [u8s, Lib.byteCells, List.map_take] using this

set_option maxHeartbeats 4000000 in
set_option maxRecDepth 100000 in
theorem law01UtfJoins (va vb : Value) (l m : List UInt8) (w : World) (ha : Sl w va (u8s l)) (hb : Sl w vb (u8s m)) :
    Calls Try.prog 8 #[va, vb] w fun e w' => e = .returned (.bool true) ∧ Below w.heap.size w w' := by
  have ha0 := ha
  have hb0 := hb
  obtain ⟨a, capa, rfl, h2, h3, h4, -⟩ := ha
  obtain ⟨b, capb, rfl, h5, h6, h7, -⟩ := hb
  simp only [u8s_length] at *
  by_cases hl : 100 < l.length <;> by_cases hm : 100 < m.length
  · skip
    have ha := Lib.hid (cut100 ha0 hl)
    have hal : (l.take 100).length ≤ 100 := List.length_take_le _ _
    clear ha0
    generalize l.take 100 = l1 at *
    have hb := Lib.hid (cut100 hb0 hm)
    have hbl : (m.take 100).length ≤ 100 := List.length_take_le _ _
    clear hb0
    generalize m.take 100 = m1 at *
    have e1 := M1.right_len l1
    have e2 := M1.right_len m1
    have q1 := M1.text_len (M1.mk false (M1.runes l1))
    have q2 := M1.text_len (M1.mk false (M1.runes m1))
    have r1 := Lib.hid (runes_right_only l1)
    have r2 := Lib.hid (runes_right_only m1)
    have r3 := Lib.hid (runes_right_two l1 m1)
    have j4 := Lib.hid (M1.isB_join l1 m1)
    have q1 : (M1.mk false (M1.runes l1)).length ≤ (M1.right l1).length := q1
    have q2 : (M1.mk false (M1.runes m1)).length ≤ (M1.right m1).length := q2
    go_enter Try.func8, Try.ntmps8
    go_wp2_with fail
    refine (utfRight _ l1 w ha.out (by omega)).mono ?_
    rintro e w1 ⟨rfl, b1⟩
    go_wp2_with fail
    refine (utfRight _ m1 w1 (hb.out.below b1) (by omega)).mono ?_
    rintro e w2 ⟨rfl, b2⟩
    obtain ⟨x3, w3, c3, s3, b3⟩ := conv_bytes w2 ⟨(M1.right l1).toArray⟩ (show (M1.right l1).length ≤ _ by omega)
    go_wp2_with fail
    refine (utfRunes x3 (M1.right l1) w3 s3 (by omega)).mono ?_
    rintro e w4 ⟨x4, rfl, s4, b4⟩
    rw [r1.out] at s4
    have o0 := World.ownsRow_nil w4 w.heap.size 21 1
    have z4 := (bt (bt (bt b1 b2) b3) b4).size
    go_wp2_with (at_builtin; refine wpList_appSl _ rfl _ _ 25 21 rfl w.heap.size Try.underlying25 info32 rfl _ _ _ rfl o0 _ _ rfl s4 (i32s_one _) (by simp; omega) (by simp; omega) z4 ?_)
    intro x5 w5 o5 g5
    try simp only [Nat.zero_add, List.nil_append, i32s_length] at o5
    have B5 := below_row (bt (bt (bt b1 b2) b3) b4) o0 g5 z4 (Nat.le_refl _)
    obtain ⟨x6, w6, c6, s6, b6⟩ := conv_bytes w5 ⟨(M1.right m1).toArray⟩ (show (M1.right m1).length ≤ _ by omega)
    go_wp2_with fail
    refine (utfRunes x6 (M1.right m1) w6 s6 (by omega)).mono ?_
    rintro e w7 ⟨x7, rfl, s7, b7⟩
    rw [r2.out] at s7
    have o7 := owns_below (owns_below o5 b6) b7
    have B7 := bt (bt B5 b6) b7
    go_wp2_with (at_builtin; refine wpList_appSl _ rfl _ _ 25 21 rfl w.heap.size Try.underlying25 info32 rfl _ _ _ rfl o7 _ _ rfl s7 (i32s_one _) (by simp; omega) (by simp; omega) B7.size ?_)
    intro x8 w8 o8 g8
    try simp only [i32s_length] at o8
    rw [← i32s_append, ← List.length_append] at o8
    have B8 := below_row B7 o7 g8 B7.size (Nat.le_refl _)
    have S8 := Sl.own o8
    have hcat : (ByteArray.mk (M1.right l1).toArray ++ ByteArray.mk (M1.right m1).toArray) = ⟨(M1.right l1 ++ M1.right m1).toArray⟩ := ByteArray.mk_append_mk _ _
    obtain ⟨x9, w9, c9, s9, b9⟩ := conv_bytes w8 ⟨(M1.right l1 ++ M1.right m1).toArray⟩ (show (M1.right l1 ++ M1.right m1).length ≤ _ by rw [List.length_append]; omega)
    go_wp2_with fail
    refine (utfRunes x9 (M1.right l1 ++ M1.right m1) w9 s9 (by rw [List.length_append]; omega)).mono ?_
    rintro e w10 ⟨x10, rfl, s10, b10⟩
    rw [r3.out] at s10
    go_wp2_with fail
    refine (ref01Same _ _ _ _ w10 s10 ((S8.below b9).below b10)).mono ?_
    rintro e w11 ⟨rfl, b11⟩
    rw [M1.sameB_self]
    go_wp2_with fail
    refine (utfIs _ w11 (show (M1.right l1 ++ M1.right m1).length ≤ _ by rw [List.length_append]; omega)).mono ?_
    rintro e w12 ⟨rfl, b12⟩
    rw [show M1.isB (ByteArray.mk (M1.right l1 ++ M1.right m1).toArray).data.toList = true from j4.out]
    go_wp2_with fail
    refine (law01Lives w12).mono ?_
    rintro e w13 ⟨rfl, b13⟩
    go_wp2
    go_ret
    exact ⟨rfl, bt (bt (bt (bt (bt B8 b9) b10) b11) b12) b13⟩
  · skip
    have ha := Lib.hid (cut100 ha0 hl)
    have hal : (l.take 100).length ≤ 100 := List.length_take_le _ _
    clear ha0
    generalize l.take 100 = l1 at *
    have hb := Lib.hid hb0
    have hbl : m.length ≤ 100 := by omega
    clear hb0
    generalize m = m1 at *
    have e1 := M1.right_len l1
    have e2 := M1.right_len m1
    have q1 := M1.text_len (M1.mk false (M1.runes l1))
    have q2 := M1.text_len (M1.mk false (M1.runes m1))
    have r1 := Lib.hid (runes_right_only l1)
    have r2 := Lib.hid (runes_right_only m1)
    have r3 := Lib.hid (runes_right_two l1 m1)
    have j4 := Lib.hid (M1.isB_join l1 m1)
    have q1 : (M1.mk false (M1.runes l1)).length ≤ (M1.right l1).length := q1
    have q2 : (M1.mk false (M1.runes m1)).length ≤ (M1.right m1).length := q2
    go_enter Try.func8, Try.ntmps8
    go_wp2_with fail
    refine (utfRight _ l1 w ha.out (by omega)).mono ?_
    rintro e w1 ⟨rfl, b1⟩
    go_wp2_with fail
    refine (utfRight _ m1 w1 (hb.out.below b1) (by omega)).mono ?_
    rintro e w2 ⟨rfl, b2⟩
    obtain ⟨x3, w3, c3, s3, b3⟩ := conv_bytes w2 ⟨(M1.right l1).toArray⟩ (show (M1.right l1).length ≤ _ by omega)
    go_wp2_with fail
    refine (utfRunes x3 (M1.right l1) w3 s3 (by omega)).mono ?_
    rintro e w4 ⟨x4, rfl, s4, b4⟩
    rw [r1.out] at s4
    have o0 := World.ownsRow_nil w4 w.heap.size 21 1
    have z4 := (bt (bt (bt b1 b2) b3) b4).size
    go_wp2_with (at_builtin; refine wpList_appSl _ rfl _ _ 25 21 rfl w.heap.size Try.underlying25 info32 rfl _ _ _ rfl o0 _ _ rfl s4 (i32s_one _) (by simp; omega) (by simp; omega) z4 ?_)
    intro x5 w5 o5 g5
    try simp only [Nat.zero_add, List.nil_append, i32s_length] at o5
    have B5 := below_row (bt (bt (bt b1 b2) b3) b4) o0 g5 z4 (Nat.le_refl _)
    obtain ⟨x6, w6, c6, s6, b6⟩ := conv_bytes w5 ⟨(M1.right m1).toArray⟩ (show (M1.right m1).length ≤ _ by omega)
    go_wp2_with fail
    refine (utfRunes x6 (M1.right m1) w6 s6 (by omega)).mono ?_
    rintro e w7 ⟨x7, rfl, s7, b7⟩
    rw [r2.out] at s7
    have o7 := owns_below (owns_below o5 b6) b7
    have B7 := bt (bt B5 b6) b7
    go_wp2_with (at_builtin; refine wpList_appSl _ rfl _ _ 25 21 rfl w.heap.size Try.underlying25 info32 rfl _ _ _ rfl o7 _ _ rfl s7 (i32s_one _) (by simp; omega) (by simp; omega) B7.size ?_)
    intro x8 w8 o8 g8
    try simp only [i32s_length] at o8
    rw [← i32s_append, ← List.length_append] at o8
    have B8 := below_row B7 o7 g8 B7.size (Nat.le_refl _)
    have S8 := Sl.own o8
    have hcat : (ByteArray.mk (M1.right l1).toArray ++ ByteArray.mk (M1.right m1).toArray) = ⟨(M1.right l1 ++ M1.right m1).toArray⟩ := ByteArray.mk_append_mk _ _
    obtain ⟨x9, w9, c9, s9, b9⟩ := conv_bytes w8 ⟨(M1.right l1 ++ M1.right m1).toArray⟩ (show (M1.right l1 ++ M1.right m1).length ≤ _ by rw [List.length_append]; omega)
    go_wp2_with fail
    refine (utfRunes x9 (M1.right l1 ++ M1.right m1) w9 s9 (by rw [List.length_append]; omega)).mono ?_
    rintro e w10 ⟨x10, rfl, s10, b10⟩
    rw [r3.out] at s10
    go_wp2_with fail
    refine (ref01Same _ _ _ _ w10 s10 ((S8.below b9).below b10)).mono ?_
    rintro e w11 ⟨rfl, b11⟩
    rw [M1.sameB_self]
    go_wp2_with fail
    refine (utfIs _ w11 (show (M1.right l1 ++ M1.right m1).length ≤ _ by rw [List.length_append]; omega)).mono ?_
    rintro e w12 ⟨rfl, b12⟩
    rw [show M1.isB (ByteArray.mk (M1.right l1 ++ M1.right m1).toArray).data.toList = true from j4.out]
    go_wp2_with fail
    refine (law01Lives w12).mono ?_
    rintro e w13 ⟨rfl, b13⟩
    go_wp2
    go_ret
    exact ⟨rfl, bt (bt (bt (bt (bt B8 b9) b10) b11) b12) b13⟩
  · skip
    have ha := Lib.hid ha0
    have hal : l.length ≤ 100 := by omega
    clear ha0
    generalize l = l1 at *
    have hb := Lib.hid (cut100 hb0 hm)
    have hbl : (m.take 100).length ≤ 100 := List.length_take_le _ _
    clear hb0
    generalize m.take 100 = m1 at *
    have e1 := M1.right_len l1
    have e2 := M1.right_len m1
    have q1 := M1.text_len (M1.mk false (M1.runes l1))
    have q2 := M1.text_len (M1.mk false (M1.runes m1))
    have r1 := Lib.hid (runes_right_only l1)
    have r2 := Lib.hid (runes_right_only m1)
    have r3 := Lib.hid (runes_right_two l1 m1)
    have j4 := Lib.hid (M1.isB_join l1 m1)
    have q1 : (M1.mk false (M1.runes l1)).length ≤ (M1.right l1).length := q1
    have q2 : (M1.mk false (M1.runes m1)).length ≤ (M1.right m1).length := q2
    go_enter Try.func8, Try.ntmps8
    go_wp2_with fail
    refine (utfRight _ l1 w ha.out (by omega)).mono ?_
    rintro e w1 ⟨rfl, b1⟩
    go_wp2_with fail
    refine (utfRight _ m1 w1 (hb.out.below b1) (by omega)).mono ?_
    rintro e w2 ⟨rfl, b2⟩
    obtain ⟨x3, w3, c3, s3, b3⟩ := conv_bytes w2 ⟨(M1.right l1).toArray⟩ (show (M1.right l1).length ≤ _ by omega)
    go_wp2_with fail
    refine (utfRunes x3 (M1.right l1) w3 s3 (by omega)).mono ?_
    rintro e w4 ⟨x4, rfl, s4, b4⟩
    rw [r1.out] at s4
    have o0 := World.ownsRow_nil w4 w.heap.size 21 1
    have z4 := (bt (bt (bt b1 b2) b3) b4).size
    go_wp2_with (at_builtin; refine wpList_appSl _ rfl _ _ 25 21 rfl w.heap.size Try.underlying25 info32 rfl _ _ _ rfl o0 _ _ rfl s4 (i32s_one _) (by simp; omega) (by simp; omega) z4 ?_)
    intro x5 w5 o5 g5
    try simp only [Nat.zero_add, List.nil_append, i32s_length] at o5
    have B5 := below_row (bt (bt (bt b1 b2) b3) b4) o0 g5 z4 (Nat.le_refl _)
    obtain ⟨x6, w6, c6, s6, b6⟩ := conv_bytes w5 ⟨(M1.right m1).toArray⟩ (show (M1.right m1).length ≤ _ by omega)
    go_wp2_with fail
    refine (utfRunes x6 (M1.right m1) w6 s6 (by omega)).mono ?_
    rintro e w7 ⟨x7, rfl, s7, b7⟩
    rw [r2.out] at s7
    have o7 := owns_below (owns_below o5 b6) b7
    have B7 := bt (bt B5 b6) b7
    go_wp2_with (at_builtin; refine wpList_appSl _ rfl _ _ 25 21 rfl w.heap.size Try.underlying25 info32 rfl _ _ _ rfl o7 _ _ rfl s7 (i32s_one _) (by simp; omega) (by simp; omega) B7.size ?_)
    intro x8 w8 o8 g8
    try simp only [i32s_length] at o8
    rw [← i32s_append, ← List.length_append] at o8
    have B8 := below_row B7 o7 g8 B7.size (Nat.le_refl _)
    have S8 := Sl.own o8
    have hcat : (ByteArray.mk (M1.right l1).toArray ++ ByteArray.mk (M1.right m1).toArray) = ⟨(M1.right l1 ++ M1.right m1).toArray⟩ := ByteArray.mk_append_mk _ _
    obtain ⟨x9, w9, c9, s9, b9⟩ := conv_bytes w8 ⟨(M1.right l1 ++ M1.right m1).toArray⟩ (show (M1.right l1 ++ M1.right m1).length ≤ _ by rw [List.length_append]; omega)
    go_wp2_with fail
    refine (utfRunes x9 (M1.right l1 ++ M1.right m1) w9 s9 (by rw [List.length_append]; omega)).mono ?_
    rintro e w10 ⟨x10, rfl, s10, b10⟩
    rw [r3.out] at s10
    go_wp2_with fail
    refine (ref01Same _ _ _ _ w10 s10 ((S8.below b9).below b10)).mono ?_
    rintro e w11 ⟨rfl, b11⟩
    rw [M1.sameB_self]
    go_wp2_with fail
    refine (utfIs _ w11 (show (M1.right l1 ++ M1.right m1).length ≤ _ by rw [List.length_append]; omega)).mono ?_
    rintro e w12 ⟨rfl, b12⟩
    rw [show M1.isB (ByteArray.mk (M1.right l1 ++ M1.right m1).toArray).data.toList = true from j4.out]
    go_wp2_with fail
    refine (law01Lives w12).mono ?_
    rintro e w13 ⟨rfl, b13⟩
    go_wp2
    go_ret
    exact ⟨rfl, bt (bt (bt (bt (bt B8 b9) b10) b11) b12) b13⟩
  · skip
    have ha := Lib.hid ha0
    have hal : l.length ≤ 100 := by omega
    clear ha0
    generalize l = l1 at *
    have hb := Lib.hid hb0
    have hbl : m.length ≤ 100 := by omega
    clear hb0
    generalize m = m1 at *
    have e1 := M1.right_len l1
    have e2 := M1.right_len m1
    have q1 := M1.text_len (M1.mk false (M1.runes l1))
    have q2 := M1.text_len (M1.mk false (M1.runes m1))
    have r1 := Lib.hid (runes_right_only l1)
    have r2 := Lib.hid (runes_right_only m1)
    have r3 := Lib.hid (runes_right_two l1 m1)
    have j4 := Lib.hid (M1.isB_join l1 m1)
    have q1 : (M1.mk false (M1.runes l1)).length ≤ (M1.right l1).length := q1
    have q2 : (M1.mk false (M1.runes m1)).length ≤ (M1.right m1).length := q2
    go_enter Try.func8, Try.ntmps8
    go_wp2_with fail
    refine (utfRight _ l1 w ha.out (by omega)).mono ?_
    rintro e w1 ⟨rfl, b1⟩
    go_wp2_with fail
    refine (utfRight _ m1 w1 (hb.out.below b1) (by omega)).mono ?_
    rintro e w2 ⟨rfl, b2⟩
    obtain ⟨x3, w3, c3, s3, b3⟩ := conv_bytes w2 ⟨(M1.right l1).toArray⟩ (show (M1.right l1).length ≤ _ by omega)
    go_wp2_with fail
    refine (utfRunes x3 (M1.right l1) w3 s3 (by omega)).mono ?_
    rintro e w4 ⟨x4, rfl, s4, b4⟩
    rw [r1.out] at s4
    have o0 := World.ownsRow_nil w4 w.heap.size 21 1
    have z4 := (bt (bt (bt b1 b2) b3) b4).size
    go_wp2_with (at_builtin; refine wpList_appSl _ rfl _ _ 25 21 rfl w.heap.size Try.underlying25 info32 rfl _ _ _ rfl o0 _ _ rfl s4 (i32s_one _) (by simp; omega) (by simp; omega) z4 ?_)
    intro x5 w5 o5 g5
    try simp only [Nat.zero_add, List.nil_append, i32s_length] at o5
    have B5 := below_row (bt (bt (bt b1 b2) b3) b4) o0 g5 z4 (Nat.le_refl _)
    obtain ⟨x6, w6, c6, s6, b6⟩ := conv_bytes w5 ⟨(M1.right m1).toArray⟩ (show (M1.right m1).length ≤ _ by omega)
    go_wp2_with fail
    refine (utfRunes x6 (M1.right m1) w6 s6 (by omega)).mono ?_
    rintro e w7 ⟨x7, rfl, s7, b7⟩
    rw [r2.out] at s7
    have o7 := owns_below (owns_below o5 b6) b7
    have B7 := bt (bt B5 b6) b7
    go_wp2_with (at_builtin; refine wpList_appSl _ rfl _ _ 25 21 rfl w.heap.size Try.underlying25 info32 rfl _ _ _ rfl o7 _ _ rfl s7 (i32s_one _) (by simp; omega) (by simp; omega) B7.size ?_)
    intro x8 w8 o8 g8
    try simp only [i32s_length] at o8
    rw [← i32s_append, ← List.length_append] at o8
    have B8 := below_row B7 o7 g8 B7.size (Nat.le_refl _)
    have S8 := Sl.own o8
    have hcat : (ByteArray.mk (M1.right l1).toArray ++ ByteArray.mk (M1.right m1).toArray) = ⟨(M1.right l1 ++ M1.right m1).toArray⟩ := ByteArray.mk_append_mk _ _
    obtain ⟨x9, w9, c9, s9, b9⟩ := conv_bytes w8 ⟨(M1.right l1 ++ M1.right m1).toArray⟩ (show (M1.right l1 ++ M1.right m1).length ≤ _ by rw [List.length_append]; omega)
    go_wp2_with fail
    refine (utfRunes x9 (M1.right l1 ++ M1.right m1) w9 s9 (by rw [List.length_append]; omega)).mono ?_
    rintro e w10 ⟨x10, rfl, s10, b10⟩
    rw [r3.out] at s10
    go_wp2_with fail
    refine (ref01Same _ _ _ _ w10 s10 ((S8.below b9).below b10)).mono ?_
    rintro e w11 ⟨rfl, b11⟩
    rw [M1.sameB_self]
    go_wp2_with fail
    refine (utfIs _ w11 (show (M1.right l1 ++ M1.right m1).length ≤ _ by rw [List.length_append]; omega)).mono ?_
    rintro e w12 ⟨rfl, b12⟩
    rw [show M1.isB (ByteArray.mk (M1.right l1 ++ M1.right m1).toArray).data.toList = true from j4.out]
    go_wp2_with fail
    refine (law01Lives w12).mono ?_
    rintro e w13 ⟨rfl, b13⟩
    go_wp2
    go_ret
    exact ⟨rfl, bt (bt (bt (bt (bt B8 b9) b10) b11) b12) b13⟩

def keep (l : List Int) (k : Nat) : List Int := (l.take k).filter (fun r => decide (M1.okRune r))
theorem keep_yes {l : List Int} {k : Nat} (h : k < l.length) (ho : M1.okRune l[k]) : keep l (k + 1) = keep l k ++ [l[k]] := by
  unfold keep
  rw [List.take_succ_eq_append_getElem h, List.filter_append]
  simp [ho]
theorem keep_no {l : List Int} {k : Nat} (h : k < l.length) (ho : ¬ M1.okRune l[k]) : keep l (k + 1) = keep l k := by
  unfold keep
  rw [List.take_succ_eq_append_getElem h, List.filter_append]
  simp [ho]
theorem keep_len (l : List Int) (k : Nat) : (keep l k).length ≤ k := Nat.le_trans (List.length_filter_le _ _) (List.length_take_le _ _)
theorem keep_ok (l : List Int) (k : Nat) : ∀ r ∈ keep l k, M1.okRune r := by
  intro r hr
  have := (List.mem_filter.1 hr).2
  simpa using this

set_option maxHeartbeats 4000000 in
set_option maxRecDepth 100000 in
theorem law01UtfRound (v : Value) (l : List Int) (w : World) (hs : Sl w v (i32s l)) :
    Calls Try.prog 7 #[v] w fun e w' => e = .returned (.bool true) ∧ Below w.heap.size w w' := by
  have hs0 := hs
  obtain ⟨a, cap, rfl, h2, h3, h4, -⟩ := hs
  simp only [i32s_length] at *
  clear h4
  go_enter Try.func7, Try.ntmps7
  go_wp2
  go_loopw [3, 4] (fun v3 i wr => ∃ k : Nat, i = .int .i64 k ∧ k ≤ l.length ∧ k ≤ 60 ∧ wr.ownsRow w.heap.size 21 1 v3 (keep l k).length (i32s (keep l k)) ∧ Below w.heap.size w wr) (fun _ i _ => 60 - (intOf i).toNat)
  case atStart => exact ⟨0, rfl, by omega, by omega, World.ownsRow_nil _ _ _ _, Below.refl _ _⟩
  case round =>
    obtain ⟨k, rfl, hk, hk60, hown, hbw⟩ := hrel
    have hkl := keep_len l k
    by_cases hlt : k < l.length
    · by_cases hlt2 : k < 60
      · obtain ⟨b, off, rfl, hlb, hc⟩ := hs0.i32 k hlt
        have hc : wr.cell? ⟨b, off + k, none⟩ = some (.int .i32 l[k]) := (hbw.cell hlb).trans hc
        have hyes := keep_yes hlt
        have hno := keep_no hlt
        clear hs0
        generalize l[k] = x at *
        have hx : x < 0 ∨ (0 ≤ x ∧ x < 55296) ∨ (55296 ≤ x ∧ x ≤ 57343) ∨ (57343 < x ∧ x ≤ 1114111) ∨ 1114111 < x := by omega
        rcases hx with c1 | ⟨c1, c2⟩ | ⟨c1, c2⟩ | ⟨c1, c2⟩ | c1
        · have hk2 := Lib.hid (hno (by unfold M1.okRune; omega))
          have hb : decide (57343 < x) = false := decide_eq_false (by omega)
          have hb0 : decide (0 ≤ x) = false := decide_eq_false (by omega)
          clear hyes hno
          go_wp2
          go_roundw
          case rel => exact ⟨k + 1, by go_num, by omega, by omega, by rw [hk2.out]; exact hown, hbw⟩
          case measure => simp [intOf]; omega
        · have hk2 := Lib.hid (hyes (by unfold M1.okRune; omega))
          clear hyes hno
          go_wp2_with (at_builtin; refine wpList_app1 _ _ rfl _ _ 25 21 rfl w.heap.size Try.underlying25 info32 rfl _ _ _ rfl hown rfl rfl (by omega) (by omega) (by have := hbw.size; omega) ?_)
          intro v' w2 hown2 hgrow
          go_wp2
          go_roundw
          case rel => exact ⟨k + 1, by go_num, by omega, by omega, by rw [hk2.out, i32s_append, List.length_append]; exact hown2, below_row hbw hown hgrow hbw.size (Nat.le_refl _)⟩
          case measure => simp [intOf]; omega
        · have hk2 := Lib.hid (hno (by unfold M1.okRune; omega))
          have hb : decide (57343 < x) = false := decide_eq_false (by omega)
          have hb0 : decide (x < 55296) = false := decide_eq_false (by omega)
          clear hyes hno
          go_wp2
          go_roundw
          case rel => exact ⟨k + 1, by go_num, by omega, by omega, by rw [hk2.out]; exact hown, hbw⟩
          case measure => simp [intOf]; omega
        · have hk2 := Lib.hid (hyes (by unfold M1.okRune; omega))
          have hb0 : decide (x < 55296) = false := decide_eq_false (by omega)
          clear hyes hno
          go_wp2_with (at_builtin; refine wpList_app1 _ _ rfl _ _ 25 21 rfl w.heap.size Try.underlying25 info32 rfl _ _ _ rfl hown rfl rfl (by omega) (by omega) (by have := hbw.size; omega) ?_)
          intro v' w2 hown2 hgrow
          go_wp2
          go_roundw
          case rel => exact ⟨k + 1, by go_num, by omega, by omega, by rw [hk2.out, i32s_append, List.length_append]; exact hown2, below_row hbw hown hgrow hbw.size (Nat.le_refl _)⟩
          case measure => simp [intOf]; omega
        · have hk2 := Lib.hid (hno (by unfold M1.okRune; omega))
          have hb : decide (x ≤ 1114111) = false := decide_eq_false (by omega)
          have hb0 : decide (x < 55296) = false := decide_eq_false (by omega)
          clear hyes hno
          go_wp2
          go_roundw
          case rel => exact ⟨k + 1, by go_num, by omega, by omega, by rw [hk2.out]; exact hown, hbw⟩
          case measure => simp [intOf]; omega
      · skip
        have hS := Sl.own hown
        have hok := keep_ok l k
        clear hs0
        generalize keep l k = own at *
        have hrt := M1.runes_text own hok []
        rw [List.append_nil, M1.runes_nil, List.append_nil] at hrt
        have ht1 := M1.text_len own
        have ht2 := M1.text_len_le own
        have hrt := Lib.hid hrt
        have hbd := Lib.hid (show ∀ r ∈ own, -2147483648 ≤ r ∧ r ≤ 2147483647 from fun r hr => by have := hok r hr; unfold M1.okRune at this; omega)
        clear hok
        go_wp2_with fail
        refine (utfText _ own wr hS hbd.out (by omega)).mono ?_
        rintro e w1 ⟨rfl, b1⟩
        obtain ⟨x2, w2, c2, s2, b2⟩ := conv_bytes w1 ⟨(M1.text own).toArray⟩ (show (M1.text own).length ≤ _ by omega)
        go_wp2_with fail
        refine (utfRunes x2 (M1.text own) w2 s2 (by omega)).mono ?_
        rintro e w3 ⟨x3, rfl, s3, b3⟩
        rw [hrt.out] at s3
        go_wp2_with fail
        refine (ref01Same _ _ _ _ w3 s3 ((hS.below b1).below (bt b2 b3))).mono ?_
        rintro e w4 ⟨rfl, b4⟩
        rw [M1.sameB_self]
        obtain ⟨ao, cp, rfl⟩ : ∃ ao cp, u3 = .slice ao own.length cp := by
          obtain ⟨ao, cp, h, _⟩ := hS
          exact ⟨ao, cp, by rw [h, i32s_length]⟩
        go_wp2_with fail
        refine (law01Lives w4).mono ?_
        rintro e w5 ⟨rfl, b5⟩
        go_wp2
        go_ret
        exact ⟨rfl, hbw.trans ((bt (bt (bt (bt b1 b2) b3) b4) b5).mono hbw.size)⟩
    · skip
      have hS := Sl.own hown
      have hok := keep_ok l k
      clear hs0
      generalize keep l k = own at *
      have hrt := M1.runes_text own hok []
      rw [List.append_nil, M1.runes_nil, List.append_nil] at hrt
      have ht1 := M1.text_len own
      have ht2 := M1.text_len_le own
      have hrt := Lib.hid hrt
      have hbd := Lib.hid (show ∀ r ∈ own, -2147483648 ≤ r ∧ r ≤ 2147483647 from fun r hr => by have := hok r hr; unfold M1.okRune at this; omega)
      clear hok
      go_wp2_with fail
      refine (utfText _ own wr hS hbd.out (by omega)).mono ?_
      rintro e w1 ⟨rfl, b1⟩
      obtain ⟨x2, w2, c2, s2, b2⟩ := conv_bytes w1 ⟨(M1.text own).toArray⟩ (show (M1.text own).length ≤ _ by omega)
      go_wp2_with fail
      refine (utfRunes x2 (M1.text own) w2 s2 (by omega)).mono ?_
      rintro e w3 ⟨x3, rfl, s3, b3⟩
      rw [hrt.out] at s3
      go_wp2_with fail
      refine (ref01Same _ _ _ _ w3 s3 ((hS.below b1).below (bt b2 b3))).mono ?_
      rintro e w4 ⟨rfl, b4⟩
      rw [M1.sameB_self]
      obtain ⟨ao, cp, rfl⟩ : ∃ ao cp, u3 = .slice ao own.length cp := by
        obtain ⟨ao, cp, h, _⟩ := hS
        exact ⟨ao, cp, by rw [h, i32s_length]⟩
      go_wp2_with fail
      refine (law01Lives w4).mono ?_
      rintro e w5 ⟨rfl, b5⟩
      go_wp2
      go_ret
      exact ⟨rfl, hbw.trans ((bt (bt (bt (bt b1 b2) b3) b4) b5).mono hbw.size)⟩

end Go.Proofs.Ytmnbmdkoljekpaa
