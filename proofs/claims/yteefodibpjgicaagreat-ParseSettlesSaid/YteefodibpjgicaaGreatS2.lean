/- Texts joined: Ref01b, Ref01c, Strs, Kit2, Ref02, Ref02b, Ref02c, Mem, Ref05, Ref05b. -/
import Derived.Lib.Bytealg
import Derived.Lib.Strings
import Derived.Shelf.Strconv.Clone
import Derived.Test.YteefodibpjgicaaGreatRows
import Derived.Deep.QuietTactic
import Derived.BigQuiet
import Derived.IntWalk
import Derived.Laws.AppendOwn
import Derived.Deep.DeepCutAuto
import Derived.Deep.CutBlock
import Derived.Test.YteefodibpjgicaaGreatS1
namespace Go.Proofs.YteefodibpjgicaaGreat
open Go.RowKit
theorem info32' : (Tryz.prog.info? 21).map (fun i => (i.zero, i.size, i.bytes)) = some (some (.int .i32 0), 1, 4) := by kernel_rfl
theorem drop_ne' {l : List UInt8} {k : Nat} (h : k < l.length) : l.drop k ≠ [] := ne_of_lt (k := 0) (by rw [List.length_drop]; omega)
set_option maxHeartbeats 1000000 in
set_option maxRecDepth 100000 in
theorem ref01Runes (v : Value) (l : List UInt8) (w : World) (hs : Sl w v (u8s l)) (hl : l.length ≤ 1073741824) :
    Calls Tryz.prog 31 #[v] w fun e w' => ∃ v', e = .returned v' ∧ Sl w' v' (i32s (M1.runes l)) ∧ Below w.heap.size w w' := by
  have hs0 := hs
  obtain ⟨a, cap, rfl, h2, h3, h4, h5⟩ := hs
  rw [u8s_length] at *
  go_enter Tryz.func31, Tryz.ntmps31
  go_wp2
  go_loopw [3, 4] (fun v3 i wr => ∃ (pos : Nat) (acc : List Int), i = .int .i64 pos ∧ pos ≤ l.length ∧ wr.ownsRow w.heap.size 21 1 v3 acc.length (i32s acc) ∧ Below w.heap.size w wr ∧ Hid (M1.runes l = acc ++ M1.runes (l.drop pos)) ∧ acc.length ≤ pos) (fun _ i _ => l.length - (intOf i).toNat)
  case atStart => exact ⟨0, [], rfl, by omega, World.ownsRow_nil _ _ _ _, Below.refl _ _, rfl, by simp⟩
  case round =>
    obtain ⟨pos, acc, rfl, hpl, hown, hbw, hacc, hal⟩ := hrel
    by_cases hp : pos < l.length
    · obtain ⟨b, off, rfl, h7⟩ := h5 (ne_of_lt (k := pos) (by simpa using hp))
      have hne := drop_ne' hp
      have hd := (hs0.below hbw).drop pos (by omega)
      have hO := ref01One _ (l.drop pos) wr (by rw [show u8s (l.drop pos) = (u8s l).drop pos by simp [u8s, Lib.byteCells, List.map_drop]]; exact hd) hne
      have hst0 := M1.runes_step _ hne
      have hw1 := M1.dec_pos _ hne
      have hw2 := M1.dec_le _ hne
      have hlt := M1.dec_lt (l.drop pos)
      rw [List.drop_drop] at hst0
      rw [List.length_drop] at hw2
      generalize (M1.dec (l.drop pos)).1 = r at *
      generalize (M1.dec (l.drop pos)).2 = wd at *
      have hst := Lib.hid hst0
      have hO := Lib.hid hO
      clear hst0 h5 h7 hd hs0 h4
      go_wp2_with (first | (go_at_call 44; refine hO.out.mono ?_; rintro e w2 ⟨rfl, rfl⟩) | (at_builtin; refine wpList_app1 _ _ rfl _ _ 48 21 rfl w.heap.size Tryz.underlying48 info32' rfl _ _ _ rfl hown rfl rfl ?c1 ?c2 ?c3 ?_))
      case c1 => omega
      case c2 => omega
      case c3 => exact hbw.size
      intro v' w2 hown2 hgrow
      go_wp2
      go_roundw
      case rel =>
        refine ⟨pos + wd, acc ++ [(r : Int)], by go_num, by omega, ?_, below_row hbw hown hgrow hbw.size (Nat.le_refl _), ?_, by simp; omega⟩
        · rw [i32s_append, List.length_append]; exact hown2
        · show _ = _
          rw [hacc.out, hst.out]; simp
      case measure => simp [intOf]; omega
    · clear h5 h4 hs0
      have h := hacc.out
      rw [List.drop_of_length_le (by omega), M1.runes_nil, List.append_nil] at h
      have h := Lib.hid h
      go_wp2
      go_ret
      exact ⟨_, rfl, by rw [h.out]; exact Sl.own hown, hbw⟩
theorem Sl.fresh (w : World) (e : TypeId) (xs : List Value) (n : Nat) (hn : xs.length = n) (h : n ≤ 4) : Sl (w.alloc (.cells xs.toArray e)) (.slice (some ⟨w.heap.size, 0, none⟩) n n) xs := by
  subst hn
  refine ⟨_, xs.length, rfl, Nat.le_refl _, by omega, (fun h => by cases h), fun _ => ⟨_, 0, rfl, fun j hj => ?_⟩⟩
  rw [Nat.zero_add, World.cell?_alloc_at _ _ _ _ rfl]
  simp [hj]
set_option maxHeartbeats 2000000 in
set_option maxRecDepth 100000 in
theorem ref01Bytes (r : Int) (w : World) (h0 : -2147483648 ≤ r) (h1 : r ≤ 2147483647) :
    Calls Tryz.prog 45 #[.int .i32 r] w fun e w' => ∃ v', e = .returned v' ∧ Sl w' v' (Lib.runeCells r) ∧ Below w.heap.size w w' := by
  have hfr := fun xs n hn h => Sl.fresh w 5 xs n hn h
  have hbl := fun o => (Below.refl w.heap.size w).alloc (Nat.le_refl _) o
  have hfr := Lib.hid hfr
  have hbl := Lib.hid hbl
  by_cases c1 : 0 ≤ r ∧ r ≤ 127
  · obtain ⟨c1, c2⟩ := c1
    have e : Lib.runeCells r = [.int .u8 r] := by simp [Lib.runeCells, Lib.encodeRuneZ_one c1 c2]
    rw [e]
    clear e
    go_enter Tryz.func45, Tryz.ntmps45
    go_wp2
    go_ret
    exact ⟨_, rfl, hfr.out _ 1 rfl (by omega), hbl.out _⟩
  by_cases c2 : 128 ≤ r ∧ r ≤ 2047
  · obtain ⟨c2, c3⟩ := c2
    have e : Lib.runeCells r = [.int .u8 (192 + r / 64), .int .u8 (128 + r % 64)] := by simp [Lib.runeCells, Lib.encodeRuneZ_two c2 c3]
    rw [e]
    clear e
    go_enter Tryz.func45, Tryz.ntmps45
    go_wp2
    go_ret
    exact ⟨_, rfl, hfr.out _ 2 rfl (by omega), hbl.out _⟩
  by_cases c3 : 2048 ≤ r ∧ r < 55296
  · obtain ⟨c3, c4⟩ := c3
    have e : Lib.runeCells r = [.int .u8 (224 + r / 4096), .int .u8 (128 + r / 64 % 64), .int .u8 (128 + r % 64)] := by simp [Lib.runeCells, Lib.encodeRuneZ_three (r := r) (by omega)]
    rw [e]
    clear e
    go_enter Tryz.func45, Tryz.ntmps45
    go_wp2
    go_ret
    exact ⟨_, rfl, hfr.out _ 3 rfl (by omega), hbl.out _⟩
  by_cases c4 : 57343 < r ∧ r ≤ 65535
  · obtain ⟨c4, c5⟩ := c4
    have e : Lib.runeCells r = [.int .u8 (224 + r / 4096), .int .u8 (128 + r / 64 % 64), .int .u8 (128 + r % 64)] := by simp [Lib.runeCells, Lib.encodeRuneZ_three (r := r) (by omega)]
    have hb : decide (r ≤ 57343) = false := decide_eq_false (by omega)
    rw [e]
    clear e
    go_enter Tryz.func45, Tryz.ntmps45
    go_wp2
    go_ret
    exact ⟨_, rfl, hfr.out _ 3 rfl (by omega), hbl.out _⟩
  by_cases c5 : 65536 ≤ r ∧ r ≤ 1114111
  · obtain ⟨c5, c6⟩ := c5
    have e : Lib.runeCells r = [.int .u8 (240 + r / 262144), .int .u8 (128 + r / 4096 % 64), .int .u8 (128 + r / 64 % 64), .int .u8 (128 + r % 64)] := by simp [Lib.runeCells, Lib.encodeRuneZ_four c5 c6]
    have hb : decide (r ≤ 57343) = false := decide_eq_false (by omega)
    rw [e]
    clear e
    go_enter Tryz.func45, Tryz.ntmps45
    go_wp2
    go_ret
    exact ⟨_, rfl, hfr.out _ 4 rfl (by omega), hbl.out _⟩
  have e : Lib.runeCells r = [.int .u8 239, .int .u8 191, .int .u8 189] := by simp [Lib.runeCells, Lib.encodeRuneZ_bad (r := r) (by omega)]
  rw [e]
  clear e
  have hc : r < 0 ∨ 1114111 < r ∨ (55296 ≤ r ∧ r ≤ 57343) := by omega
  clear c1 c2 c3 c4 c5
  rcases hc with hc | hc | ⟨hc, hc2⟩
  all_goals
    go_enter Tryz.func45, Tryz.ntmps45
    go_wp2
    go_ret
    exact ⟨_, rfl, hfr.out _ 3 rfl (by omega), hbl.out _⟩
theorem runeCells_one (r : Int) : ∀ u ∈ Lib.runeCells r, u.oneCell' = true := by
  intro u hu
  simp only [Lib.runeCells, List.mem_map] at hu
  obtain ⟨x, _, rfl⟩ := hu
  rfl
set_option maxHeartbeats 1000000 in
set_option maxRecDepth 100000 in
theorem ref01Text (v : Value) (rs : List Int) (w : World) (hs : Sl w v (i32s rs)) (hr : ∀ r ∈ rs, -2147483648 ≤ r ∧ r ≤ 2147483647) (hl : rs.length ≤ 1073741824) :
    Calls Tryz.prog 32 #[v] w fun e w' => e = .returned (.string ⟨(M1.text rs).toArray⟩) ∧ Below w.heap.size w w' := by
  obtain ⟨a, cap, rfl, h2, h3, h4, h5⟩ := hs
  rw [i32s_length] at *
  go_enter Tryz.func32, Tryz.ntmps32
  go_wp2
  go_loopw [3, 4] (fun v3 i wr => ∃ k : Nat, i = .int .i64 k ∧ k ≤ rs.length ∧ wr.ownsRow w.heap.size 5 1 v3 (M1.text (rs.take k)).length (u8s (M1.text (rs.take k))) ∧ Below w.heap.size w wr) (fun _ i _ => rs.length - (intOf i).toNat)
  case atStart => exact ⟨0, rfl, by omega, World.ownsRow_nil _ _ _ _, Below.refl _ _⟩
  case round =>
    obtain ⟨k, rfl, hk, hown, hbw⟩ := hrel
    have htl := M1.text_len_le (rs.take k)
    have htk : (rs.take k).length ≤ k := List.length_take_le _ _
    by_cases hlt : k < rs.length
    · obtain ⟨b, off, rfl, h7⟩ := h5 (ne_of_lt (k := k) (by simpa using hlt))
      have h8 := h7 k (by simpa using hlt)
      have h9 := World.block_lt_of_cell? w _ h8
      have hc : wr.cell? ⟨b, off + k, none⟩ = some (.int .i32 rs[k]) := by
        rw [hbw.cell h9, h8]; simp [i32s]
      have hrk := hr rs[k] (List.getElem_mem hlt)
      have htk1 := Lib.hid (List.take_succ_eq_append_getElem hlt)
      have hl4 := Lib.runeCells_le rs[k]
      have hco := Lib.hid (runeCells_one rs[k])
      clear h5 h7 h8
      generalize rs[k] = r at *
      go_wp2_with fail
      refine (ref01Bytes r _ hrk.1 hrk.2).mono ?_
      rintro e w1 ⟨y, rfl, hy, hb1⟩
      have hown1 := owns_below hown hb1
      have hs1 := hb1.size
      have hs2 := hbw.size
      go_wp2_with (at_builtin; refine wpList_appSl _ rfl _ _ 22 5 rfl w.heap.size Tryz.underlying22 infoU8 rfl _ _ _ rfl hown1 _ _ rfl hy hco.out (by omega) (by omega) (by have := hbw.size; omega) ?_)
      intro v' w2 hown2 hgrow
      go_wp2
      go_roundw
      case rel =>
        have e : u8s (M1.text [r]) = Lib.runeCells r := by
          rw [show M1.text [r] = Lib.encodeRune r by simp [M1.text]]; exact Lib.byteCells_encodeRune r
        have e2 : (M1.text [r]).length = (Lib.runeCells r).length := by rw [← e, u8s_length]
        refine ⟨k + 1, by go_num, by omega, ?_, below_row (hbw.trans (hb1.mono hs2)) hown1 hgrow (by omega) (Nat.le_refl _)⟩
        rw [htk1.out, M1.text_append, u8s_append, e, List.length_append, e2]
        exact hown2
      case measure => simp [intOf]; omega
    · clear h5 h4
      have hcv := (Sl.own hown).toString 22 9 5 Tryz.underlying22 Tryz.underlying5 Tryz.underlying9
      go_wp2
      go_ret
      rw [List.take_of_length_le (by omega)]
      exact ⟨rfl, hbw⟩
end Go.Proofs.YteefodibpjgicaaGreat

namespace Go.Proofs.YteefodibpjgicaaGreat
open Go.RowKit
set_option maxHeartbeats 2000000 in
set_option maxRecDepth 100000 in
theorem ref01Right (v : Value) (l : List UInt8) (w : World) (hs : Sl w v (u8s l)) (hl : l.length ≤ 268435456) :
    Calls Tryz.prog 14 #[v] w fun e w' => e = .returned (.string ⟨(M1.right l).toArray⟩) ∧ Below w.heap.size w w' := by
  have hrl := M1.runes_len l.length l (Nat.le_refl _)
  have hml := M1.mk_len (M1.runes l) false
  have hok := Lib.hid (M1.right_ok l)
  go_enter Tryz.func14, Tryz.ntmps14
  go_wp2_with fail
  refine (ref01Runes v l w hs (by omega)).mono ?_
  rintro e w0 ⟨v0, rfl, hs0, hb0⟩
  have hr : Hid (M1.right l = M1.text (M1.mk false (M1.runes l))) := rfl
  generalize M1.runes l = rs at *
  have hs00 := hs0
  obtain ⟨a, cap, rfl, h2, h3, h4, h5⟩ := hs0
  rw [i32s_length] at *
  have hz0 := hb0.size
  go_wp2
  go_loopw [4, 5] (fun v4 i wr => ∃ (k : Nat) (acc : List Int), i = .int .i64 k ∧ k ≤ rs.length ∧ acc.length ≤ k ∧ wr.ownsRow w0.heap.size 21 1 v4 acc.length (i32s acc) ∧ Below w0.heap.size w0 wr ∧ Hid (M1.mk false rs = acc ++ M1.mk (M1.prev rs k) (rs.drop k))) (fun _ i _ => rs.length - (intOf i).toNat)
  case atStart => exact ⟨0, [], rfl, by omega, by simp, World.ownsRow_nil _ _ _ _, Below.refl _ _, rfl⟩
  case round =>
    obtain ⟨k, acc, rfl, hk, hak, hown, hbw, hacc⟩ := hrel
    by_cases hlt : k < rs.length
    · obtain ⟨b, off, rfl, h7⟩ := h5 (ne_of_lt (k := k) (by simpa using hlt))
      have hcell : ∀ j, (hj : j < rs.length) → wr.cell? ⟨b, off + j, none⟩ = some (.int .i32 rs[j]) := fun j hj => by
        have h8 := h7 j (by simpa using hj)
        rw [hbw.cell (World.block_lt_of_cell? w0 _ h8), h8]; simp [i32s]
      have hc := hcell k hlt
      have hd := M1.mk_drop rs k hlt
      have hacc1 := Lib.hid (hacc.out.trans (congrArg (acc ++ ·) hd))
      have hx := Lib.hid (rfl : M1.piece rs[k] (M1.prev rs k) = M1.piece rs[k] (M1.prev rs k))
      have fin0 : ∀ (y : Int) (w2 : World) (v2 : Value), M1.piece rs[k] (M1.prev rs k) = [y] → w2.ownsRow w0.heap.size 21 1 v2 (acc.length + 1) (i32s acc ++ [.int .i32 y]) → wr.grownBy w2 u4.ownBlock →
          ∃ (k' : Nat) (acc' : List Int), Value.int .i64 ((k : Int) + 1) = .int .i64 k' ∧ k' ≤ rs.length ∧ acc'.length ≤ k' ∧ w2.ownsRow w0.heap.size 21 1 v2 acc'.length (i32s acc') ∧ Below w0.heap.size w0 w2 ∧ Hid (M1.mk false rs = acc' ++ M1.mk (M1.prev rs k') (rs.drop k')) := by
        intro y w2 v2 hp ho hg
        refine ⟨k + 1, acc ++ [y], by go_num, by omega, by simp; omega, ?_, below_row hbw hown hg hbw.size (Nat.le_refl _), ?_⟩
        · rw [i32s_append, List.length_append]; exact ho
        · show _ = _
          rw [hacc1.out, hp, List.append_assoc]
      have fin := Lib.hid fin0
      clear h5 h7 hd h4 hacc fin0 hx
      have hbz := hbw.size
      by_cases h13 : rs[k] = 13
      · have hp : M1.piece rs[k] (M1.prev rs k) = [10] := by rw [M1.piece, if_pos h13]
        have hp := Lib.hid hp
        rw [h13] at hc
        clear h13 hcell
        go_wp2_with (at_builtin; refine wpList_app1 _ _ rfl _ _ 48 21 rfl w0.heap.size Tryz.underlying48 info32' rfl _ _ _ rfl hown rfl rfl (by omega) (by omega) (by have := hbw.size; omega) ?_)
        intro v' w2 hown2 hgrow
        go_wp2
        go_roundw
        case rel => exact fin.out _ _ _ hp.out hown2 hgrow
        case measure => simp [intOf]; omega
      by_cases h10 : rs[k] = 10
      · rw [h10] at hc
        by_cases hk0 : k = 0
        · subst hk0
          have hp : M1.piece rs[0] (M1.prev rs 0) = [10] := by rw [M1.piece, if_neg h13, if_neg (by simp [M1.prev]), if_neg (by omega), h10]
          have hp := Lib.hid hp
          have hak' : acc.length ≤ 1 := by omega
          have hc : wr.cell? ⟨b, off, none⟩ = some (.int .i32 10) := hc
          clear h13 h10 hcell hak
          go_wp2_with (at_builtin; refine wpList_app1 _ _ rfl _ _ 48 21 rfl w0.heap.size Tryz.underlying48 info32' rfl _ _ _ rfl hown rfl rfl (by omega) (by omega) (by have := hbw.size; omega) ?_)
          intro v' w2 hown2 hgrow
          go_wp2
          go_roundw
          case rel => exact fin.out _ _ _ hp.out hown2 hgrow
          case measure => simp [intOf]; omega
        · obtain ⟨j, rfl⟩ : ∃ j, k = j + 1 := ⟨k - 1, by omega⟩
          have hcj := hcell j (by omega)
          by_cases hj : rs[j]'(by omega) = 13
          · have hp : M1.piece rs[j + 1] (M1.prev rs (j + 1)) = [] := by
              have hpv : M1.prev rs (j + 1) = true := by simp [M1.prev, List.getD_eq_getElem?_getD, List.getElem?_eq_getElem (show j < rs.length by omega), hj]
              rw [M1.piece, if_neg h13, if_pos ⟨h10, hpv⟩]
            have hr2 : Hid (M1.mk false rs = acc ++ M1.mk (M1.prev rs (j + 1 + 1)) (rs.drop (j + 1 + 1))) := by
              show _ = _
              rw [hacc1.out, hp, List.nil_append]
            rw [hj] at hcj
            clear h13 h10 hcell hj fin
            go_wp2
            go_roundw
            case rel => exact ⟨j + 1 + 1, acc, by go_num, by omega, by omega, hown, hbw, hr2⟩
            case measure => simp [intOf]; omega
          · have hp : M1.piece rs[j + 1] (M1.prev rs (j + 1)) = [10] := by
              rw [M1.piece, if_neg h13, if_neg ?_, if_neg (by omega), h10]
              intro h
              have h2 := h.2
              simp [M1.prev, List.getD_eq_getElem?_getD, List.getElem?_eq_getElem (show j < rs.length by omega)] at h2
              exact hj h2
            have hp := Lib.hid hp
            generalize rs[j]'(by omega) = y at *
            have hyb : (y == 13) = false := by simpa using hj
            clear h13 h10 hcell hj
            go_wp2_with (at_builtin; refine wpList_app1 _ _ rfl _ _ 48 21 rfl w0.heap.size Tryz.underlying48 info32' rfl _ _ _ rfl hown rfl rfl (by omega) (by omega) (by have := hbw.size; omega) ?_)
            intro v' w2 hown2 hgrow
            go_wp2
            go_roundw
            case rel => exact fin.out _ _ _ hp.out hown2 hgrow
            case measure => simp [intOf]; omega
      by_cases h0 : rs[k] = 0
      · have hp : M1.piece rs[k] (M1.prev rs k) = [65533] := by rw [M1.piece, if_neg h13, if_neg (fun h => h10 h.1), if_pos h0]
        have hp := Lib.hid hp
        rw [h0] at hc
        clear h13 h10 hcell
        go_wp2_with (at_builtin; refine wpList_app1 _ _ rfl _ _ 48 21 rfl w0.heap.size Tryz.underlying48 info32' rfl _ _ _ rfl hown rfl rfl (by omega) (by omega) (by have := hbw.size; omega) ?_)
        intro v' w2 hown2 hgrow
        go_wp2
        go_roundw
        case rel => exact fin.out _ _ _ hp.out hown2 hgrow
        case measure => simp [intOf]; omega
      have hp : M1.piece rs[k] (M1.prev rs k) = [rs[k]] := by rw [M1.piece, if_neg h13, if_neg (fun h => h10 h.1), if_neg h0]
      have hp := Lib.hid hp
      generalize rs[k] = x at *
      have h13b : (x == 13) = false := by simpa using h13
      have h10b : (x == 10) = false := by simpa using h10
      have h0b : (x == 0) = false := by simpa using h0
      clear h13 h10 h0 hcell
      go_wp2_with (at_builtin; refine wpList_app1 _ _ rfl _ _ 48 21 rfl w0.heap.size Tryz.underlying48 info32' rfl _ _ _ rfl hown rfl rfl (by omega) (by omega) (by have := hbw.size; omega) ?_)
      intro v' w2 hown2 hgrow
      go_wp2
      go_roundw
      case rel => exact fin.out _ _ _ hp.out hown2 hgrow
      case measure => simp [intOf]; omega
    · clear h5 h4
      have h := hacc.out
      rw [List.drop_of_length_le (by omega), M1.mk, List.append_nil] at h
      go_wp2_with fail
      refine (ref01Text _ acc _ (Sl.own hown) ?_ (by omega)).mono ?_
      · intro r hr
        rw [← h] at hr
        have := (hok.out r hr).1
        unfold M1.okRune at this
        omega
      rintro e w1 ⟨rfl, hb1⟩
      go_wp2
      go_ret
      rw [hr.out, h]
      exact ⟨rfl, (hb0.trans (hbw.mono hz0)).trans (hb1.mono (by have := hbw.size; omega))⟩
set_option maxHeartbeats 1000000 in
set_option maxRecDepth 100000 in
theorem ref01Fold (s : ByteArray) (w : World) (hs : s.size ≤ 1073741824) :
    Calls Tryz.prog 90 #[.string s] w fun e w' => e = .returned (.string ⟨(M1.fold s.data.toList).toArray⟩) ∧ Below w.heap.size w w' := by
  go_enter Tryz.func90, Tryz.ntmps90
  go_wp2
  go_loopw [3, 4] (fun v3 i wr => ∃ (k : Nat), i = .int .i64 k ∧ k ≤ s.size ∧ wr.ownsRow w.heap.size 5 1 v3 k (u8s (M1.fold (s.data.toList.take k))) ∧ Below w.heap.size w wr) (fun _ i _ => s.size - (intOf i).toNat)
  case atStart => exact ⟨0, rfl, by omega, World.ownsRow_nil _ _ _ _, Below.refl _ _⟩
  case round =>
    obtain ⟨k, rfl, hk, hown, hbw⟩ := hrel
    by_cases hlt : k < s.size
    · have hls : k < s.data.toList.length := hlt
      have hbz := hbw.size
      have e1 := Lib.hid (List.take_succ_eq_append_getElem (l := s.data.toList) hls)
      have hsm := M1.small_nat s[k]
      have hcl := s[k].toNat_lt
      have hcl : s[k].toNat < 256 := hcl
      by_cases hup : 65 ≤ s[k].toNat ∧ s[k].toNat ≤ 90
      · rw [if_pos hup] at hsm
        have hsm := Lib.hid hsm
        obtain ⟨h1, h2⟩ := hup
        go_wp2_with (at_builtin; refine wpList_app1 _ _ rfl _ _ 22 5 rfl w.heap.size Tryz.underlying22 infoU8 rfl _ _ _ rfl hown rfl rfl (by omega) (by omega) (by have := hbw.size; omega) ?_)
        intro v' w2 hown2 hgrow
        go_wp2
        go_roundw
        case rel =>
          refine ⟨k + 1, by go_num, by omega, ?_, below_row hbw hown hgrow hbz (Nat.le_refl _)⟩
          rw [e1.out, M1.fold, List.map_append, u8s_append]
          have e3 : u8s (List.map M1.small [s.data.toList[k]]) = [.int .u8 ((s[k].toNat : Int) + 32)] := by
            show [Value.int .u8 ((M1.small s[k]).toNat : Int)] = _
            rw [hsm.out]; rfl
          rw [e3]; exact hown2
        case measure => simp [intOf]; omega
      · rw [if_neg hup] at hsm
        have hsm := Lib.hid hsm
        have hup2 : s[k].toNat < 65 ∨ 90 < s[k].toNat := by omega
        clear hup
        have hadd : ∀ v2 w2, World.ownsRow w2 w.heap.size 5 1 v2 (k + 1) (u8s (M1.fold (s.data.toList.take k)) ++ [.int .u8 (s[k].toNat : Int)]) → World.ownsRow w2 w.heap.size 5 1 v2 (k + 1) (u8s (M1.fold (s.data.toList.take (k + 1)))) := by
          intro v2 w2 h
          rw [e1.out, M1.fold, List.map_append, u8s_append]
          have e3 : u8s (List.map M1.small [s.data.toList[k]]) = [.int .u8 (s[k].toNat : Int)] := by
            show [Value.int .u8 ((M1.small s[k]).toNat : Int)] = _
            rw [hsm.out]
          rw [e3]; exact h
        have hadd := Lib.hid hadd
        rcases hup2 with hup | hup
        · go_wp2_with (at_builtin; refine wpList_app1 _ _ rfl _ _ 22 5 rfl w.heap.size Tryz.underlying22 infoU8 rfl _ _ _ rfl hown rfl rfl (by omega) (by omega) (by have := hbw.size; omega) ?_)
          intro v' w2 hown2 hgrow
          go_wp2
          go_roundw
          case rel => exact ⟨k + 1, by go_num, by omega, hadd.out _ _ hown2, below_row hbw hown hgrow hbz (Nat.le_refl _)⟩
          case measure => simp [intOf]; omega
        · go_wp2_with (at_builtin; refine wpList_app1 _ _ rfl _ _ 22 5 rfl w.heap.size Tryz.underlying22 infoU8 rfl _ _ _ rfl hown rfl rfl (by omega) (by omega) (by have := hbw.size; omega) ?_)
          intro v' w2 hown2 hgrow
          go_wp2
          go_roundw
          case rel => exact ⟨k + 1, by go_num, by omega, hadd.out _ _ hown2, below_row hbw hown hgrow hbz (Nat.le_refl _)⟩
          case measure => simp [intOf]; omega
    · obtain rfl : k = s.size := by omega
      rw [List.take_of_length_le (l := s.data.toList) (show s.data.toList.length ≤ s.size from Nat.le_refl _)] at hown
      have hcv := (Sl.own hown).toString 22 9 5 Tryz.underlying22 Tryz.underlying5 Tryz.underlying9
      go_wp2
      go_ret
      exact ⟨rfl, hbw⟩
end Go.Proofs.YteefodibpjgicaaGreat

namespace Go.Proofs.YteefodibpjgicaaGreat
open Go.Shelf Go.RowKit
set_option maxHeartbeats 2000000 in
set_option maxRecDepth 100000 in
theorem bWriteString (B b : Nat) (bs : List Value) (s : ByteArray) (w : World) (h : Lib.IsBuilderF 120 5 B b bs w) (hlen : bs.length + s.size ≤ 140737488355328) (hBw : B ≤ w.heap.size) :
    Calls Tryz.prog 106 #[.pointer (some ⟨b, 0, none⟩), .string s] w fun e w' => e = .returned (.tuple #[.int .i64 s.size, .nilIface]) ∧ (Lib.BuilderAtF 120 5 B b (.pointer (some ⟨b, 0, none⟩)) (bs ++ Lib.strCells s) w' ∧ Below B w w' ∧ Lib.OthersKept 5 (some b) w w') := by
  obtain ⟨i0, hi, hz0, hz1, hz2⟩ := info_parts infoU8
  go_enter Tryz.func106, Tryz.ntmps106
  go_wp2_with (go_at_call 114; refine (copyCheck_k B b bs _ h).mono ?_)
  rintro e w1 ⟨rfl, h1, hb1, hk1⟩
  obtain ⟨hB, v, hbk, hown, hne⟩ := h1
  have c0 : w1.cell? ⟨b, 0, none⟩ = some (.pointer (some ⟨b, 0, none⟩)) := by rw [Lib.cell_of_heap hbk]; rfl
  have c1 : w1.cell? ⟨b, 1, none⟩ = some v := by rw [Lib.cell_of_heap hbk]; rfl
  go_wp2_with (at_builtin; refine Lib.wpList_append_own_stringF _ rfl _ _ 22 9 rfl B 5 i0 Tryz.underlying22 Tryz.underlying9 hi hz0 hz1 hz2 _ _ _ rfl hown s rfl ?c3 ?c4 ?c5 ?_)
  case c3 => unfold maxLen; omega
  case c4 => omega
  case c5 => have := hb1.size; omega
  intro v' w2 hown' hgrow _
  have hlt : b < w1.heap.size := by
    rcases Nat.lt_or_ge b w1.heap.size with h' | h'
    · exact h'
    · simp [Array.getElem?_eq_none h'] at hbk
  have hb2 : w2.heap[b]? = some (.cells #[.pointer (some ⟨b, 0, none⟩), v] 120 (0, 0)) := by
    rw [hgrow.block b hlt (fun e => hne e.symm)]
    exact hbk
  have d0 : w2.cell? ⟨b, 0, none⟩ = some (.pointer (some ⟨b, 0, none⟩)) := by rw [Lib.cell_of_heap hb2]; rfl
  have d1 : w2.cell? ⟨b, 1, none⟩ = some v := by rw [Lib.cell_of_heap hb2]; rfl
  have f1 : w2.frozen? ⟨b, 1, none⟩ = false := Lib.frozen_of_heap hb2 1
  obtain ⟨ao, n', cap, rfl⟩ : ∃ ao n' cap, v' = .slice ao n' cap := by
    rcases hown'.2 with ⟨hv, _⟩ | ⟨g, cap, cur, fz, hv, _⟩
    · exact ⟨_, _, _, hv⟩
    · exact ⟨_, _, _, hv⟩
  go_wp2
  go_ret2
  refine ⟨rfl, ?_, ?_, (hk1.grown hgrow (Lib.ownsRowF_kind hown)).setCell ⟨b, 1, none⟩ rfl _⟩
  · exact Lib.BuilderAtF.put (T := 120) (e := 5) hB hb2 (bs' := bs ++ Lib.strCells s) (by simpa [Lib.strCells_length] using hown') (by decide)
  · exact (hb1.grown hgrow (by have := hb1.size; omega) (fun k hk => (hown.lt k hk).1)).setCell (p := ⟨b, 1, none⟩) hB _
set_option maxHeartbeats 1000000 in
set_option maxRecDepth 100000 in
theorem liteIndexByte (s : ByteArray) (c : Int) (w : World) :
    Calls Tryz.prog 132 #[.string s, .int .u8 c] w fun e w' => e = .returned (.int .i64 (Lib.indexByte s.data.toList c.toNat.toUInt8)) ∧ w' = w := by
  go_enter Tryz.func132, Tryz.ntmps132
  go_wp2
  rw [run_callFunc_extern Tryz.func133 (by kernel_rfl) (by kernel_rfl) (by kernel_rfl) (e := Extern.BytealgIndexByte.indexByte) (by kernel_rfl), Lib.run_indexByteString]
  simp only [Result.andThen]
  rw [Oper.upon_value]
  go_wp2
  go_ret
  exact ⟨rfl, rfl⟩
set_option maxHeartbeats 1000000 in
theorem sIndexByte (s : ByteArray) (c : Int) (w : World) :
    Calls Tryz.prog 128 #[.string s, .int .u8 c] w fun e w' => e = .returned (.int .i64 (Lib.indexByte s.data.toList c.toNat.toUInt8)) ∧ w' = w := by
  go_enter Tryz.func128, Tryz.ntmps128
  go_wp2_with (go_at_call 132; refine (liteIndexByte _ _ _).mono ?_; rintro e w' ⟨rfl, rfl⟩)
  go_ret
  exact ⟨rfl, rfl⟩
set_option maxHeartbeats 2000000 in
set_option maxRecDepth 100000 in
theorem liteIndex1 (s : ByteArray) (c : UInt8) (w : World) :
    Calls Tryz.prog 194 #[.string s, .string ⟨#[c]⟩] w fun e w' => e = .returned (.int .i64 (Lib.indexByte s.data.toList c)) ∧ w' = w := by
  go_enter Tryz.func194, Tryz.ntmps194
  go_wp2_with (go_at_call 132; refine (liteIndexByte _ _ _).mono ?_; rintro e w' ⟨rfl, rfl⟩)
  · have h : ([c] == s.toList) = true := by assumption
    go_ret
    refine ⟨?_, rfl⟩
    have e : s.data.toList = [c] := by rw [← Lib.toList_data]; exact (beq_iff_eq.1 h).symm
    rw [e]
    simp [Lib.indexByte]
  · go_ret
    exact ⟨rfl, rfl⟩
set_option maxHeartbeats 1000000 in
theorem sIndex1 (s : ByteArray) (c : UInt8) (w : World) :
    Calls Tryz.prog 187 #[.string s, .string ⟨#[c]⟩] w fun e w' => e = .returned (.int .i64 (Lib.indexByte s.data.toList c)) ∧ w' = w := by
  go_enter Tryz.func187, Tryz.ntmps187
  go_wp2_with (go_at_call 194; refine (liteIndex1 _ _ _).mono ?_; rintro e w' ⟨rfl, rfl⟩)
  go_ret
  exact ⟨rfl, rfl⟩
set_option maxHeartbeats 1000000 in
theorem sContains1 (s : ByteArray) (c : UInt8) (w : World) :
    Calls Tryz.prog 176 #[.string s, .string ⟨#[c]⟩] w fun e w' => e = .returned (.bool (decide (0 ≤ Lib.indexByte s.data.toList c))) ∧ w' = w := by
  go_enter Tryz.func176, Tryz.ntmps176
  go_wp2_with (go_at_call 187; refine (sIndex1 _ _ _).mono ?_; rintro e w' ⟨rfl, rfl⟩)
  go_ret
  exact ⟨rfl, rfl⟩
def Tryz.lays316_ren : Go.Shelf.Ren := ⟨fun | 316 => 181 | n => n, fun | 0 => 0 | 3 => 3 | 4 => 4 | 5 => 5 | 9 => 9 | 37 => 22 | 127 => 129 | n => n, fun | n => n⟩
theorem Tryz.lays316 : Go.Proofs.LaysM.n316 Tryz.prog Tryz.lays316_ren := {
  mixed := by kernel_rfl
  f316 := Tryz.func181.trans (congrArg some (by kernel_rfl))
  t0 := Tryz.underlying0
  a0 := Tryz.isAgg0
  z0 := Tryz.sizeOf0
  v0 := Tryz.zeroValue0
  t3 := Tryz.underlying3
  a3 := Tryz.isAgg3
  z3 := Tryz.sizeOf3
  v3 := Tryz.zeroValue3
  t4 := Tryz.underlying4
  a4 := Tryz.isAgg4
  z4 := Tryz.sizeOf4
  v4 := Tryz.zeroValue4
  t5 := Tryz.underlying5
  a5 := Tryz.isAgg5
  z5 := Tryz.sizeOf5
  v5 := Tryz.zeroValue5
  t9 := Tryz.underlying9
  a9 := Tryz.isAgg9
  z9 := Tryz.sizeOf9
  v9 := Tryz.zeroValue9
  t37 := Tryz.underlying22
  a37 := Tryz.isAgg22
  z37 := Tryz.sizeOf22
  v37 := Tryz.zeroValue22
  t127 := Tryz.underlying129
  a127 := Tryz.isAgg129
  z127 := Tryz.sizeOf129
  v127 := Tryz.zeroValue129
  i0 := by kernel_rfl
  i3 := by kernel_rfl
  i4 := by kernel_rfl
  i5 := by kernel_rfl
  i9 := by kernel_rfl
  i37 := by kernel_rfl
  i127 := by kernel_rfl }
theorem liteClone (s : ByteArray) (w : World) (hs : s.size ≤ 281474976710656) :
    Calls Tryz.prog 181 #[.string s] w fun e w' => e = .returned (.string s) ∧ Below w.heap.size w w' := Any.stringslite_Clone Tryz.lays316 s w hs
set_option maxHeartbeats 1000000 in
theorem sClone (s : ByteArray) (w : World) (hs : s.size ≤ 281474976710656) :
    Calls Tryz.prog 169 #[.string s] w fun e w' => e = .returned (.string s) ∧ Below w.heap.size w w' := by
  go_enter Tryz.func169, Tryz.ntmps169
  go_wp2_with (go_at_call 181; refine (liteClone _ _ hs).mono ?_; rintro e w' ⟨rfl, hb⟩)
  go_ret
  exact ⟨rfl, hb⟩
end Go.Proofs.YteefodibpjgicaaGreat

namespace Go.Proofs.YteefodibpjgicaaGreat
open Go.RowKit
theorem add_plain' (b off j : Nat) : (⟨b, off, none⟩ : Addr).add j = ⟨b, off + j, none⟩ := by unfold Addr.add; split <;> simp_all
theorem sl_row {k : IntKind} {w : World} {x : Addr} {len cap : Nat} {zs : List Int} (hl : len ≤ cap) (hm : cap ≤ maxLen) (hz : zs.length = cap) (hc : ∀ i, i < zs.length → w.cell? (x.add i) = some (.int k (zs.getD i 0))) :
    Sl w (.slice (some x) len cap) ((zs.take len).map (Value.int k)) := by
  have hlen : ((zs.take len).map (Value.int k)).length = len := by simp; omega
  unfold maxLen at hm
  refine ⟨some x, cap, by rw [hlen], by rw [hlen]; exact hl, by omega, (fun h => by cases h), fun hne => ?_⟩
  have hpos : 0 < len := by
    rcases Nat.eq_zero_or_pos len with h | h
    · subst h; simp at hne
    · exact h
  obtain ⟨b, off, spot⟩ := x
  have hspot : spot = none := by simpa [Addr.add] using World.cell?_spot (hc 0 (by omega))
  subst hspot
  refine ⟨b, off, rfl, fun j hj => ?_⟩
  rw [hlen] at hj
  have h := hc j (by omega)
  rw [add_plain'] at h
  rw [h]
  simp [List.getD_eq_getElem?_getD, List.getElem?_eq_getElem (show j < zs.length by omega)]
theorem sl_row8 {w : World} {x : Addr} {len cap : Nat} {zs : List Int} (hl : len ≤ cap) (hm : cap ≤ maxLen) (hz : zs.length = cap) (hc : ∀ i, i < zs.length → w.cell? (x.add i) = some (.int .u8 (zs.getD i 0))) (hw : ∀ n ∈ zs, (Lit.int .u8 n).wf = true) :
    Sl w (.slice (some x) len cap) (u8s ((zs.take len).map fun n => n.toNat.toUInt8)) := by
  have h := sl_row hl hm hz hc
  have e : u8s ((zs.take len).map fun n => n.toNat.toUInt8) = (zs.take len).map (Value.int .u8) := by
    simp only [u8s, Lib.byteCells, List.map_map]
    apply List.map_congr_left
    intro n hn
    have h1 := hw n (List.mem_of_mem_take hn)
    have h2 : IntKind.u8.min = 0 := rfl
    have h3 : IntKind.u8.max = 255 := rfl
    simp only [Lit.wf, Bool.and_eq_true, decide_eq_true_eq, h2, h3] at h1
    have h4 := M1.toNat_u8 n.toNat (by omega)
    simp only [Function.comp, h4]
    congr 1
    omega
  rw [e]; exact h
theorem Sl.fresh' (w : World) (e : TypeId) (xs : List Value) (n : Nat) (hn : xs.length = n) (h : n ≤ 4000) : Sl (w.alloc (.cells xs.toArray e)) (.slice (some ⟨w.heap.size, 0, none⟩) n n) xs := by
  subst hn
  refine ⟨_, xs.length, rfl, Nat.le_refl _, by omega, (fun h => by cases h), fun _ => ⟨_, 0, rfl, fun j hj => ?_⟩⟩
  rw [Nat.zero_add, World.cell?_alloc_at _ _ _ _ rfl]
  simp [hj]
theorem bt {w w1 w2 : World} (h : Below w.heap.size w w1) (k : Below w1.heap.size w1 w2) : Below w.heap.size w w2 := h.trans (k.mono h.size)
end Go.Proofs.YteefodibpjgicaaGreat

namespace Go.Proofs.YteefodibpjgicaaGreat
open Go.RowKit
def namesV : List Value := M2.tbl.map fun p => .string ⟨p.1.toArray⟩
def codesV : List Value := M2.tbl.map fun p => .int .i64 (p.2 : Int)
set_option maxHeartbeats 2000000 in
set_option maxRecDepth 100000 in
theorem ref02Name (s : ByteArray) (w : World) :
    Calls Tryz.prog 100 #[.string s] w fun e w' => e = .returned (.tuple #[.int .i64 (((M2.nm s.data.toList).getD 0 : Nat) : Int), .bool (M2.nm s.data.toList).isSome]) ∧ Below w.heap.size w w' := by
  generalize hx : (((M2.nm s.data.toList).getD 0 : Nat) : Int) = x
  generalize hy : (M2.nm s.data.toList).isSome = y
  replace hx := Lib.hid hx
  replace hy := Lib.hid hy
  go_enter Tryz.func100, Tryz.ntmps100
  go_wp2
  go_loopw [6] (fun i wr => ∃ k : Nat, k ≤ 15 ∧ i = .int .i64 k ∧ Sl wr (.slice (some ⟨w.heap.size, 0, none⟩) 15 15) namesV ∧ Sl wr (.slice (some ⟨w.heap.size + 1, 0, none⟩) 15 15) codesV ∧ Below w.heap.size w wr ∧ Hid (∀ p ∈ M2.tbl.take k, p.1 ≠ s.data.toList)) (fun i _ => 15 - (intOf i).toNat)
  case atStart =>
    have h1 := Sl.fresh' w 9 namesV 15 rfl (by omega)
    have h2 := Sl.fresh' (w.alloc (.cells namesV.toArray 9)) 3 codesV 15 rfl (by omega)
    refine ⟨0, by omega, rfl, h1.below ((Below.refl _ _).alloc (Nat.le_refl _) _), ?_, ((Below.refl _ w).alloc (Nat.le_refl _) _).alloc (by simp) _, by intro p hp; simp at hp⟩
    rw [show (w.alloc (.cells namesV.toArray 9)).heap.size = w.heap.size + 1 by simp] at h2
    exact h2
  case round =>
    obtain ⟨k, hk, rfl, hsn, hsc, hbw, hno⟩ := hrel
    by_cases hlt : k < 15
    · have hlt' : k < M2.tbl.length := hlt
      have hsn0 := Lib.hid hsn
      have hsc0 := Lib.hid hsc
      obtain ⟨_, _, h1, _, _, _, hcn⟩ := hsn
      obtain ⟨_, _, h2, _, _, _, hcc⟩ := hsc
      obtain ⟨b1, o1, h3, hcn⟩ := hcn (by decide)
      obtain ⟨b2, o2, h4, hcc⟩ := hcc (by decide)
      cases h1
      cases h2
      cases h3
      cases h4
      have c1 := hcn k (by simpa [namesV] using hlt')
      have c2 := hcc k (by simpa [codesV] using hlt')
      simp only [namesV, codesV, List.getElem_map, Nat.zero_add] at c1 c2
      have hmem := List.getElem_mem hlt'
      have htk : M2.tbl.take (k + 1) = M2.tbl.take k ++ [M2.tbl[k]] := List.take_succ_eq_append_getElem hlt'
      have hnm := M2.nm_of_mem hmem
      generalize M2.tbl[k] = p at *
      obtain ⟨pn, pc⟩ := p
      simp only at c1 c2 hnm
      clear hcn hcc hmem
      by_cases he : pn = s.data.toList
      · have hbe : (pn == s.toList) = true := by rw [Lib.toList_data, beq_iff_eq]; exact he
        rw [he] at hnm
        replace hnm := Lib.hid hnm
        clear he htk hno
        go_wp2
        go_ret2
        rw [← hx.out, ← hy.out, hnm.out]
        exact ⟨rfl, hbw⟩
      · have hbe : (pn == s.toList) = false := by rw [Lib.toList_data, beq_eq_false_iff_ne]; exact he
        have hno2 : Hid (∀ p ∈ M2.tbl.take (k + 1), p.1 ≠ s.data.toList) := by
          intro p hp
          rw [htk] at hp
          rcases List.mem_append.1 hp with hp | hp
          · exact hno.out p hp
          · simp at hp; subst hp; exact he
        clear he htk hno hnm
        go_wp2
        go_roundw
        case rel => exact ⟨k + 1, by omega, by go_num, hsn0.out, hsc0.out, hbw, hno2⟩
        case measure => simp [intOf]; omega
    · obtain rfl : k = 15 := by omega
      have hnm : M2.nm s.data.toList = none := M2.nm_none (fun p hp => hno.out p (by rw [List.take_of_length_le (show M2.tbl.length ≤ 15 from Nat.le_refl _)]; exact hp))
      replace hnm := Lib.hid hnm
      clear hno hlt
      go_wp2
      go_ret2
      rw [← hx.out, ← hy.out, hnm.out]
      exact ⟨rfl, hbw⟩
def digN (b : Nat) (r : Int) : Int := if (b : Int) ≤ M2.digZ r then -1 else M2.digZ r
set_option maxHeartbeats 1000000 in
set_option maxRecDepth 100000 in
theorem ref02Digit (r : Int) (b : Nat) (w : World) (h0 : 0 ≤ r) (h255 : r ≤ 255) :
    Calls Tryz.prog 110 #[.int .u8 r, .int .i64 (b : Int)] w fun e w' => e = .returned (.int .i64 (digN b r)) ∧ w' = w := by
  have e1 := M2.digZ_bd r
  unfold digN
  clear e1
  by_cases h1 : 48 ≤ r ∧ r ≤ 57
  · rw [show M2.digZ r = r - 48 from if_pos h1]
    obtain ⟨h1, h2⟩ := h1
    have hd : decide (97 ≤ r) = false := decide_eq_false (by omega)
    have hd2 : decide (65 ≤ r) = false := decide_eq_false (by omega)
    by_cases hb : (b : Int) ≤ r - 48
    · rw [if_pos hb]
      go_enter Tryz.func110, Tryz.ntmps110
      go_wp2
      go_ret
      exact ⟨rfl, rfl⟩
    · rw [if_neg hb]
      have hb' : decide ((b : Int) ≤ r - 48) = false := decide_eq_false hb
      clear hb
      go_enter Tryz.func110, Tryz.ntmps110
      go_wp2
      go_ret
      exact ⟨rfl, rfl⟩
  by_cases h2 : 97 ≤ r ∧ r ≤ 102
  · rw [show M2.digZ r = r - 97 + 10 by rw [M2.digZ, if_neg h1, if_pos h2]]
    obtain ⟨h2, h3⟩ := h2
    have hd : decide (r ≤ 57) = false := decide_eq_false (by omega)
    have hd2 : decide (r ≤ 70) = false := decide_eq_false (by omega)
    clear h1
    by_cases hb : (b : Int) ≤ r - 97 + 10
    · rw [if_pos hb]
      go_enter Tryz.func110, Tryz.ntmps110
      go_wp2
      go_ret
      exact ⟨rfl, rfl⟩
    · rw [if_neg hb]
      have hb' : decide ((b : Int) ≤ r - 97 + 10) = false := decide_eq_false hb
      clear hb
      go_enter Tryz.func110, Tryz.ntmps110
      go_wp2
      go_ret
      exact ⟨rfl, rfl⟩
  by_cases h3 : 65 ≤ r ∧ r ≤ 70
  · rw [show M2.digZ r = r - 65 + 10 by rw [M2.digZ, if_neg h1, if_neg h2, if_pos h3]]
    obtain ⟨h3, h4⟩ := h3
    have hd : decide (r ≤ 57) = false := decide_eq_false (by omega)
    have hd2 : decide (97 ≤ r) = false := decide_eq_false (by omega)
    clear h1 h2
    by_cases hb : (b : Int) ≤ r - 65 + 10
    · rw [if_pos hb]
      go_enter Tryz.func110, Tryz.ntmps110
      go_wp2
      go_ret
      exact ⟨rfl, rfl⟩
    · rw [if_neg hb]
      have hb' : decide ((b : Int) ≤ r - 65 + 10) = false := decide_eq_false hb
      clear hb
      go_enter Tryz.func110, Tryz.ntmps110
      go_wp2
      go_ret
      exact ⟨rfl, rfl⟩
  · rw [show M2.digZ r = -1 by rw [M2.digZ, if_neg h1, if_neg h2, if_neg h3], if_neg (by omega)]
    go_enter Tryz.func110, Tryz.ntmps110
    go_wp2
    all_goals first | (exfalso; omega) | (go_ret; exact ⟨rfl, rfl⟩)
theorem digN_no {b : Nat} {c : UInt8} (h : M2.isD b c = false) : digN b c.toNat < 0 := by
  unfold digN
  have := M2.isD_no h
  split <;> omega
theorem digN_yes {b : Nat} {c : UInt8} (h : M2.isD b c = true) : digN b c.toNat = M2.digZ c.toNat ∧ 0 ≤ digN b c.toNat ∧ digN b c.toNat < b := by
  unfold M2.isD at h
  have := of_decide_eq_true h
  unfold digN
  rw [if_neg (by omega)]
  omega
def ansB (o : Option Int) : Value := .tuple #[.int .i64 (o.getD 0), .bool o.isSome]
theorem ansB_mk (o : Option Int) : ∃ x y, ansB o = .tuple #[.int .i64 x, .bool y] := ⟨_, _, rfl⟩
set_option maxHeartbeats 2000000 in
set_option maxRecDepth 100000 in
theorem ref02Number (s : ByteArray) (b m : Nat) (w : World) (hb0 : 1 ≤ b) (hb : b ≤ 16) (hm : m ≤ 7) (hpow : ∀ k, k ≤ m → ((b : Int)) ^ k ≤ 16777216) (hs : s.size ≤ 1073741824) :
    Calls Tryz.prog 99 #[.string s, .int .i64 (b : Int), .int .i64 (m : Int)] w fun e w' => e = .returned (ansB (M2.numR b m s.data.toList)) ∧ w' = w := by
  have hsz : s.data.toList.length = s.size := rfl
  have hnr : M2.numR b m s.data.toList = if 1 ≤ s.size ∧ s.size ≤ m ∧ s.data.toList.all (M2.isD b) = true then some (M2.chr (M2.val b s.data.toList)) else none := rfl
  by_cases h1 : s.size < 1
  · rw [hnr, if_neg (by omega)]
    have h0 : s.size = 0 := by omega
    clear hnr hpow h1 hsz
    go_enter Tryz.func99, Tryz.ntmps99
    go_wp2
    go_ret2
    exact ⟨rfl, rfl⟩
  by_cases h2 : m < s.size
  · rw [hnr, if_neg (by omega)]
    have hd : decide ((s.size : Int) < 1) = false := decide_eq_false (by omega)
    clear hnr hpow hsz h1
    go_enter Tryz.func99, Tryz.ntmps99
    go_wp2
    go_ret2
    exact ⟨rfl, rfl⟩
  have hd : decide ((s.size : Int) < 1) = false := decide_eq_false (by omega)
  have hd2 : decide (m < s.size) = false := decide_eq_false (by omega)
  have hle : s.size ≤ m := by omega
  have hge : 1 ≤ s.size := by omega
  generalize hR : M2.numR b m s.data.toList = R at *
  replace hnr := Lib.hid hnr
  replace hpow := Lib.hid hpow
  obtain ⟨x, y, hxy⟩ : ∃ x y, ansB R = .tuple #[.int .i64 x, .bool y] := ansB_mk R
  replace hxy := Lib.hid hxy
  rw [hxy.out]
  clear hR hsz h1 h2
  go_enter Tryz.func99, Tryz.ntmps99
  go_wp2
  go_loop [8, 9] (fun n i => ∃ k : Nat, k ≤ s.size ∧ i = .int .i64 k ∧ n = .int .i64 (M2.val b (s.data.toList.take k)) ∧ Hid (∀ c ∈ s.data.toList.take k, M2.isD b c = true)) (fun _ i => s.size - (intOf i).toNat)
  case atStart => exact ⟨0, by omega, rfl, rfl, by intro c hc; simp at hc⟩
  case round =>
    obtain ⟨k, hk, rfl, rfl, hall⟩ := hrel
    have hbd := M2.val_bd b _ hall.out
    have hlk : (s.data.toList.take k).length = k := by rw [List.length_take]; have : s.data.toList.length = s.size := rfl; omega
    have hpk := hpow.out k (by omega)
    rw [hlk] at hbd
    by_cases hlt : k < s.size
    · have htk : s.data.toList.take (k + 1) = s.data.toList.take k ++ [s[k]] := List.take_succ_eq_append_getElem (l := s.data.toList) hlt
      have hc8 := s[k].toNat_lt
      have hc0 : 0 ≤ (s[k].toNat : Int) := by omega
      have hc1 : (s[k].toNat : Int) ≤ 255 := by omega
      by_cases hd : M2.isD b s[k] = true
      · have hal : Hid (∀ c ∈ s.data.toList.take (k + 1), M2.isD b c = true) := by
          intro c hc
          rw [htk] at hc
          rcases List.mem_append.1 hc with hc | hc
          · exact hall.out c hc
          · simp at hc; subst hc; exact hd
        have hva : M2.val b (s.data.toList.take (k + 1)) = M2.val b (s.data.toList.take k) * b + M2.digZ s[k].toNat := by rw [htk, M2.val_snoc]
        obtain ⟨d1, d2, d3⟩ := digN_yes hd
        rw [← d1] at hva
        replace hva := Lib.hid hva
        have hm1 : M2.val b (s.data.toList.take k) * b ≤ 16777216 * 16 := Int.mul_le_mul (by omega) (by omega) (by omega) (by omega)
        have hm0 : 0 ≤ M2.val b (s.data.toList.take k) * b := Int.mul_nonneg hbd.1 (by omega)
        rw [Int.mul_comm] at hm1 hm0
        clear htk hd d1 hc8
        go_wp2_with (go_at_call 110; refine (ref02Digit _ _ _ hc0 hc1).mono ?_; rintro e w2 ⟨rfl, rfl⟩)
        go_round
        case rel => exact ⟨k + 1, by omega, by go_num, by rw [hva.out, Int.mul_comm], hal.out⟩
        case measure => simp [intOf]; omega
      · have hdf : M2.isD b s[k] = false := by simpa using hd
        have d1 := digN_no hdf
        have hR0 : R = none := by
          rw [hnr.out, if_neg]
          rintro ⟨_, _, h⟩
          exact hd (List.all_eq_true.1 h _ (List.mem_of_getElem? (List.getElem?_eq_getElem (l := s.data.toList) hlt)))
        rw [hR0] at hxy
        clear htk hd hdf hc8
        go_wp2_with (go_at_call 110; refine (ref02Digit _ _ _ hc0 hc1).mono ?_; rintro e w2 ⟨rfl, rfl⟩)
        go_ret2
        rw [← hxy.out]
        exact ⟨rfl, rfl⟩
    · obtain rfl : k = s.size := by omega
      have ht : s.data.toList.take s.size = s.data.toList := List.take_of_length_le (Nat.le_refl _)
      have hall2 := hall.out
      rw [ht] at hall2 hbd
      rw [ht]
      have hR0 : R = some (M2.chr (M2.val b s.data.toList)) := by
        rw [hnr.out, if_pos ⟨hge, hle, List.all_eq_true.2 hall2⟩]
      rw [hR0] at hxy
      clear hall hall2 ht hlk hlt hnr hR0
      generalize M2.val b s.data.toList = n at *
      by_cases hodd : n = 0 ∨ n = 13 ∨ (55296 ≤ n ∧ n ≤ 57343) ∨ 1114111 < n
      · rw [show M2.chr n = 65533 from if_pos hodd] at hxy
        go_wp2
        all_goals first | (exfalso; omega) | (go_ret2; rw [← hxy.out]; exact ⟨rfl, rfl⟩)
      · rw [show M2.chr n = n from if_neg hodd] at hxy
        have e0 : (n == 0) = false := by simpa using fun e => hodd (Or.inl e)
        have e1 : (n == 13) = false := by simpa using fun e => hodd (Or.inr (Or.inl e))
        have e2 : decide (1114111 < n) = false := decide_eq_false (fun e => hodd (Or.inr (Or.inr (Or.inr e))))
        by_cases h5 : 55296 ≤ n
        · have e3 : decide (n ≤ 57343) = false := decide_eq_false (fun e => hodd (Or.inr (Or.inr (Or.inl ⟨h5, e⟩))))
          clear hodd
          go_wp2
          go_ret2
          rw [← hxy.out]
          exact ⟨rfl, rfl⟩
        · have e4 : decide (55296 ≤ n) = false := decide_eq_false h5
          clear hodd
          go_wp2
          go_ret2
          rw [← hxy.out]
          exact ⟨rfl, rfl⟩
end Go.Proofs.YteefodibpjgicaaGreat

namespace Go.Proofs.YteefodibpjgicaaGreat
open Go.RowKit
def ansI (o : Option (Int × Nat)) : Value := .tuple #[.int .i64 ((o.map (·.1)).getD 0), .int .i64 (((o.map (·.2)).getD 0 : Nat) : Int)]
theorem ansI_none : ansI none = .tuple #[.int .i64 0, .int .i64 0] := rfl
theorem ansI_some (r : Int) (n : Nat) : ansI (some (r, n)) = .tuple #[.int .i64 r, .int .i64 (n : Int)] := rfl
theorem ansB_none : ansB none = .tuple #[.int .i64 0, .bool false] := rfl
theorem ansB_some (r : Int) : ansB (some r) = .tuple #[.int .i64 r, .bool true] := rfl
theorem ne_byte {c d : UInt8} (h : c ≠ d) : ((c.toNat : Int) == (d.toNat : Int)) = false := by
  simp only [beq_eq_false_iff_ne]
  intro e
  exact h (UInt8.toNat_inj.1 (by omega))
set_option maxHeartbeats 1000000 in
theorem ref02Name' (s : ByteArray) (w : World) :
    Calls Tryz.prog 100 #[.string s] w fun e w' => e = .returned (ansB ((M2.nm s.data.toList).map Int.ofNat)) ∧ Below w.heap.size w w' := by
  refine (ref02Name s w).mono ?_
  rintro e w' ⟨rfl, h⟩
  refine ⟨?_, h⟩
  cases M2.nm s.data.toList <;> rfl
theorem own_get (o : ByteArray) (k : Nat) (h : k < o.size) : o.data.toList[k]? = some o[k] := List.getElem?_eq_getElem (l := o.data.toList) h
theorem own_list (o : ByteArray) : o.data.toList.length = o.size := rfl
theorem own_two (o : ByteArray) (h : 1 < o.size) : ∃ t, o.data.toList = o[0] :: o[1] :: t := by
  have h0 := own_get o 0 (by omega)
  have h1 := own_get o 1 h
  generalize o.data.toList = l at *
  match l, h0, h1 with
  | a :: b :: t, h0, h1 =>
    simp at h0 h1
    exact ⟨t, by rw [h0, h1]⟩
theorem own_one (o : ByteArray) (h : 0 < o.size) : ∃ t, o.data.toList = o[0] :: t := by
  have h0 := own_get o 0 h
  generalize o.data.toList = l at *
  match l, h0 with
  | a :: t, h0 =>
    simp at h0
    exact ⟨t, by rw [h0]⟩
theorem ownB_16 (o : ByteArray) (h : 1 < o.size) (h0 : o[0] = 35) (h1 : o[1] = 120 ∨ o[1] = 88) : M2.ownB o.data.toList = M2.numR 16 6 (o.extract 2 o.size).data.toList := by
  obtain ⟨t, ht⟩ := own_two o h
  rw [extract_end, ht, M2.ownB, if_pos]
  rw [h0]
  rcases h1 with h1 | h1
  · left; rw [h1]; rfl
  · right; rw [h1]; rfl
theorem ownB_10 (o : ByteArray) (h : 1 < o.size) (h0 : o[0] = 35) (h1 : ¬ o[1] = 120) (h2 : ¬ o[1] = 88) : M2.ownB o.data.toList = M2.numR 10 7 (o.extract 1 o.size).data.toList := by
  obtain ⟨t, ht⟩ := own_two o h
  rw [extract_end, ht, M2.ownB, if_neg, if_pos]
  · rw [h0]; rfl
  · simp [h1, h2]
theorem ownB_10' (o : ByteArray) (h : o.size = 1) (h0 : o[0] = 35) : M2.ownB o.data.toList = M2.numR 10 7 (o.extract 1 o.size).data.toList := by
  obtain ⟨t, ht⟩ := own_one o (by omega)
  have hl := own_list o
  rw [ht] at hl
  have : t = [] := List.eq_nil_of_length_eq_zero (by simp at hl; omega)
  subst this
  rw [extract_end, ht, M2.ownB, if_neg (by simp), if_pos]
  rw [h0]; rfl
theorem ownB_nm (o : ByteArray) (h : 0 < o.size) (h0 : ¬ o[0] = 35) : M2.ownB o.data.toList = (M2.nm o.data.toList).map Int.ofNat := by
  obtain ⟨t, ht⟩ := own_one o h
  rw [ht, M2.ownB, if_neg, if_neg]
  · simp [h0]
  · cases t <;> simp [h0]
theorem ownB_nm0 (o : ByteArray) (h : o.size = 0) : M2.ownB o.data.toList = (M2.nm o.data.toList).map Int.ofNat := by
  have : o.data.toList = [] := List.eq_nil_of_length_eq_zero h
  rw [this]
  rfl
theorem byte_of {c : UInt8} {n : Nat} (h : (c.toNat : Int) = n) (hn : n < 256) : c = n.toUInt8 := by
  apply UInt8.toNat_inj.1
  rw [M1.toNat_u8 n hn]
  omega
theorem byte_no {c : UInt8} {n : Nat} (h : ¬ (c.toNat : Int) = n) (hn : n < 256) : ¬ c = n.toUInt8 := by
  rintro rfl
  rw [M1.toNat_u8 n hn] at h
  exact h rfl
def resI (k : Nat) : Option Int → Value
  | none => .tuple #[.int .i64 0, .int .i64 0]
  | some r => .tuple #[.int .i64 r, .int .i64 ((k : Int) + 1)]
set_option maxHeartbeats 8000000 in
set_option maxRecDepth 100000 in
theorem ref02One (s : ByteArray) (w : World) (hs : s.size ≤ 1073741824) :
    Calls Tryz.prog 85 #[.string s] w fun e w' => e = .returned (ansI (M2.one s.data.toList)) ∧ Below w.heap.size w w' := by
  have hsz : s.data.toList.length = s.size := rfl
  by_cases h0 : s.size = 0
  · have hl : s.data.toList = [] := List.eq_nil_of_length_eq_zero (hsz.trans h0)
    rw [hl, M2.one_not _ (by simp), ansI_none]
    clear hl hsz
    go_enter Tryz.func85, Tryz.ntmps85
    go_wp2
    go_ret2
    exact ⟨rfl, Below.refl _ _⟩
  have hpos : 0 < s.size := by omega
  have h0b : ((s.size : Int) == 0) = false := beq_eq_false_iff_ne.2 (by omega)
  have hgt : s.data.toList[0]? = some s[0] := List.getElem?_eq_getElem (l := s.data.toList) hpos
  by_cases h38 : s[0] = 38
  · obtain ⟨t, ht⟩ : ∃ t, s.data.toList = 38 :: t := by
      cases hl : s.data.toList with
      | nil => rw [hl] at hgt; simp at hgt
      | cons c t => rw [hl] at hgt; simp at hgt; rw [hgt, h38]; exact ⟨t, rfl⟩
    generalize hA : M2.one s.data.toList = A
    rw [ht] at hA
    replace hA := Lib.hid hA
    replace ht := Lib.hid ht
    clear h0 hgt hsz
    go_enter Tryz.func85, Tryz.ntmps85
    go_wp2
    go_loop [4] (fun i => ∃ k : Nat, 1 ≤ k ∧ k ≤ s.size ∧ i = .int .i64 k ∧ Hid ((59 : UInt8) ∉ t.take (k - 1))) (fun i => s.size - (intOf i).toNat)
    case atStart => exact ⟨1, by omega, by omega, rfl, by show _ ∉ _; simp⟩
    case round =>
      obtain ⟨k, hk1, hk, rfl, hno⟩ := hrel
      by_cases hlt : k < s.size
      · have hget : s.data.toList[k]? = some s[k] := List.getElem?_eq_getElem (l := s.data.toList) hlt
        have htk : t[k - 1]? = some s[k] := by
          rw [ht.out] at hget
          obtain ⟨j, rfl⟩ : ∃ j, k = j + 1 := ⟨k - 1, by omega⟩
          simpa using hget
        clear hget
        by_cases h59 : s[k] = 59
        · rw [h59] at htk
          have hox : (s.extract 1 k).data.toList = t.take (k - 1) := by
            rw [Lib.extract_data, ht.out]
            simp
          have htt : t = t.take (k - 1) ++ 59 :: t.drop (k - 1 + 1) := by
            obtain ⟨h1, h2⟩ := List.getElem?_eq_some_iff.1 htk
            conv => lhs; rw [← List.take_append_drop (k - 1) t, List.drop_eq_getElem_cons h1, h2]
          have hlen : (t.take (k - 1)).length = k - 1 := by
            obtain ⟨h1, h2⟩ := List.getElem?_eq_some_iff.1 htk
            rw [List.length_take]; omega
          have hone := M2.one_own (t.take (k - 1)) (t.drop (k - 1 + 1)) hno.out
          rw [← htt, hA.out, hlen, ← hox] at hone
          have hosz : (s.extract 1 k).size = k - 1 := by rw [ByteArray.size_extract]; omega
          replace hone := Lib.hid hone
          replace hox := Lib.hid hox
          replace hosz := Lib.hid hosz
          clear htt hlen hA htk hno ht
          have hres : ansI A = resI k (M2.ownB (s.extract 1 k).data.toList) := by
            rw [hone.out]
            cases M2.ownB (s.extract 1 k).data.toList with
            | none => rfl
            | some r => simp [ansI, resI]; omega
          replace hres := Lib.hid hres
          clear hone
          have h59c : (s[k].toNat : Int) = 59 := by rw [h59]; rfl
          clear h59
          go_wp2_with fail
          · have hres := hres.out
            have hz := hosz.out
            have hB := ownB_16 (s.extract 1 k) (by omega) (byte_of (n := 35) (by first | assumption | (simpa using (by assumption : ((((s.extract 1 k)[0]'(by omega)).toNat : Int) == 35) = true))) (by decide)) (Or.inl (byte_of (n := 120) (by first | assumption | (simpa using (by assumption : ((((s.extract 1 k)[1]'(by omega)).toNat : Int) == 120) = true))) (by decide)))
            clear hz
            refine (ref02Number ((s.extract 1 k).extract 2 (k - 1)) 16 6 _ (by omega) (by omega) (by omega) (by decide) (by rw [ByteArray.size_extract]; omega)).mono ?_
            rintro e w2 ⟨rfl, rfl⟩
            rw [hB, hosz.out] at hres
            generalize M2.numR 16 6 ((s.extract 1 k).extract 2 (k - 1)).data.toList = B at *
            clear hB
            replace hres := Lib.hid hres
            cases B with
            | none =>
              rw [ansB_none]
              go_wp2
              go_ret2
              rw [hres.out]
              exact ⟨rfl, Below.refl _ _⟩
            | some r =>
              rw [ansB_some]
              go_wp2
              go_ret2
              rw [hres.out]
              exact ⟨rfl, Below.refl _ _⟩
          · have hres := hres.out
            have hz := hosz.out
            have hB := ownB_16 (s.extract 1 k) (by omega) (byte_of (n := 35) (by first | assumption | (simpa using (by assumption : ((((s.extract 1 k)[0]'(by omega)).toNat : Int) == 35) = true))) (by decide)) (Or.inr (byte_of (n := 88) (by have h1 : ¬ (((s.extract 1 k)[1]'(by omega)).toNat : Int) = 120 := (by assumption); have h2 : ((((s.extract 1 k)[1]'(by omega)).toNat : Int) == 120) = true ∨ ((((s.extract 1 k)[1]'(by omega)).toNat : Int) == 88) = true := (by assumption); simpa [h1] using h2) (by decide)))
            clear hz
            refine (ref02Number ((s.extract 1 k).extract 2 (k - 1)) 16 6 _ (by omega) (by omega) (by omega) (by decide) (by rw [ByteArray.size_extract]; omega)).mono ?_
            rintro e w2 ⟨rfl, rfl⟩
            rw [hB, hosz.out] at hres
            generalize M2.numR 16 6 ((s.extract 1 k).extract 2 (k - 1)).data.toList = B at *
            clear hB
            replace hres := Lib.hid hres
            cases B with
            | none =>
              rw [ansB_none]
              go_wp2
              go_ret2
              rw [hres.out]
              exact ⟨rfl, Below.refl _ _⟩
            | some r =>
              rw [ansB_some]
              go_wp2
              go_ret2
              rw [hres.out]
              exact ⟨rfl, Below.refl _ _⟩
          · have hres := hres.out
            have hz := hosz.out
            have hB := ownB_10 (s.extract 1 k) (by omega) (byte_of (n := 35) (by first | assumption | (simpa using (by assumption : ((((s.extract 1 k)[0]'(by omega)).toNat : Int) == 35) = true))) (by decide)) (byte_no (n := 120) (by assumption) (by decide)) (byte_no (n := 88) (by have h2 : ((((s.extract 1 k)[1]'(by omega)).toNat : Int) == 120) = false ∧ ((((s.extract 1 k)[1]'(by omega)).toNat : Int) == 88) = false := (by assumption); simpa using h2.2) (by decide))
            clear hz
            refine (ref02Number ((s.extract 1 k).extract 1 (k - 1)) 10 7 _ (by omega) (by omega) (by omega) (by decide) (by rw [ByteArray.size_extract]; omega)).mono ?_
            rintro e w2 ⟨rfl, rfl⟩
            rw [hB, hosz.out] at hres
            generalize M2.numR 10 7 ((s.extract 1 k).extract 1 (k - 1)).data.toList = B at *
            clear hB
            replace hres := Lib.hid hres
            cases B with
            | none =>
              rw [ansB_none]
              go_wp2
              go_ret2
              rw [hres.out]
              exact ⟨rfl, Below.refl _ _⟩
            | some r =>
              rw [ansB_some]
              go_wp2
              go_ret2
              rw [hres.out]
              exact ⟨rfl, Below.refl _ _⟩
          · have hres := hres.out
            have hz := hosz.out
            have hB := ownB_nm (s.extract 1 k) (by omega) (byte_no (n := 35) (by first | assumption | (simpa using (by assumption : ((((s.extract 1 k)[0]'(by omega)).toNat : Int) == 35) = false))) (by decide))
            clear hz
            refine (ref02Name' (s.extract 1 k) _).mono ?_
            rintro e w2 ⟨rfl, b2⟩
            rw [hB] at hres
            generalize (M2.nm (s.extract 1 k).data.toList).map Int.ofNat = B at *
            clear hB
            replace hres := Lib.hid hres
            cases B with
            | none =>
              rw [ansB_none]
              go_wp2
              go_ret2
              rw [hres.out]
              exact ⟨rfl, b2⟩
            | some r =>
              rw [ansB_some]
              go_wp2
              go_ret2
              rw [hres.out]
              exact ⟨rfl, b2⟩
          · have hres := hres.out
            have hz := hosz.out
            have hB := ownB_10' (s.extract 1 k) (by omega) (byte_of (n := 35) (by first | assumption | (simpa using (by assumption : ((((s.extract 1 k)[0]'(by omega)).toNat : Int) == 35) = true))) (by decide))
            clear hz
            refine (ref02Number ((s.extract 1 k).extract 1 (k - 1)) 10 7 _ (by omega) (by omega) (by omega) (by decide) (by rw [ByteArray.size_extract]; omega)).mono ?_
            rintro e w2 ⟨rfl, rfl⟩
            rw [hB, hosz.out] at hres
            generalize M2.numR 10 7 ((s.extract 1 k).extract 1 (k - 1)).data.toList = B at *
            clear hB
            replace hres := Lib.hid hres
            cases B with
            | none =>
              rw [ansB_none]
              go_wp2
              go_ret2
              rw [hres.out]
              exact ⟨rfl, Below.refl _ _⟩
            | some r =>
              rw [ansB_some]
              go_wp2
              go_ret2
              rw [hres.out]
              exact ⟨rfl, Below.refl _ _⟩
          · have hres := hres.out
            have hz := hosz.out
            have hB := ownB_nm (s.extract 1 k) (by omega) (byte_no (n := 35) (by first | assumption | (simpa using (by assumption : ((((s.extract 1 k)[0]'(by omega)).toNat : Int) == 35) = false))) (by decide))
            clear hz
            refine (ref02Name' (s.extract 1 k) _).mono ?_
            rintro e w2 ⟨rfl, b2⟩
            rw [hB] at hres
            generalize (M2.nm (s.extract 1 k).data.toList).map Int.ofNat = B at *
            clear hB
            replace hres := Lib.hid hres
            cases B with
            | none =>
              rw [ansB_none]
              go_wp2
              go_ret2
              rw [hres.out]
              exact ⟨rfl, b2⟩
            | some r =>
              rw [ansB_some]
              go_wp2
              go_ret2
              rw [hres.out]
              exact ⟨rfl, b2⟩
          · have hres := hres.out
            have hz := hosz.out
            have hB := ownB_nm0 (s.extract 1 k) (by omega)
            clear hz
            refine (ref02Name' (s.extract 1 k) _).mono ?_
            rintro e w2 ⟨rfl, b2⟩
            rw [hB] at hres
            generalize (M2.nm (s.extract 1 k).data.toList).map Int.ofNat = B at *
            clear hB
            replace hres := Lib.hid hres
            cases B with
            | none =>
              rw [ansB_none]
              go_wp2
              go_ret2
              rw [hres.out]
              exact ⟨rfl, b2⟩
            | some r =>
              rw [ansB_some]
              go_wp2
              go_ret2
              rw [hres.out]
              exact ⟨rfl, b2⟩
        · have hne := ne_byte h59
          have hne' : ((s[k].toNat : Int) != 59) = true := by
            have : ((s[k].toNat : Int) == 59) = false := hne
            simpa [bne] using this
          have hno2 : Hid ((59 : UInt8) ∉ t.take (k + 1 - 1)) := by
            show _ ∉ _
            obtain ⟨j, rfl⟩ : ∃ j, k = j + 1 := ⟨k - 1, by omega⟩
            intro hm
            have h1 := hno.out
            simp only [Nat.add_sub_cancel] at hm h1 htk
            obtain ⟨h2, h3⟩ := List.getElem?_eq_some_iff.1 htk
            rw [List.take_succ_eq_append_getElem h2, h3] at hm
            rcases List.mem_append.1 hm with hm | hm
            · exact h1 hm
            · simp at hm; exact h59 hm.symm
          clear htk h59 hne hno
          go_wp2
          go_round
          case rel => exact ⟨k + 1, by omega, by omega, by go_num, hno2⟩
          case measure => simp [intOf]; omega
      · obtain rfl : k = s.size := by omega
        have hA0 : A = none := by
          rw [← hA.out]
          refine M2.one_none t ?_
          have h1 := hno.out
          have h2 : t.length + 1 = s.size := by
            have : s.data.toList.length = s.size := rfl
            rw [ht.out] at this
            simpa using this
          rwa [List.take_of_length_le (by omega)] at h1
        replace hA0 := Lib.hid hA0
        clear hno hA hlt
        go_wp2
        go_ret2
        rw [hA0.out, ansI_none]
        exact ⟨rfl, Below.refl _ _⟩
  · have hb := ne_byte h38
    have hb' : ((s[0].toNat : Int) != 38) = true := by
      have : ((s[0].toNat : Int) == 38) = false := hb
      simpa [bne] using this
    rw [M2.one_not _ (by rw [List.head?_eq_getElem?, hgt]; simpa using h38), ansI_none]
    clear hgt h38 hsz h0 hb
    go_enter Tryz.func85, Tryz.ntmps85
    go_wp2
    go_ret2
    exact ⟨rfl, Below.refl _ _⟩
end Go.Proofs.YteefodibpjgicaaGreat

namespace Go.Proofs.YteefodibpjgicaaGreat
open Go.RowKit
theorem cat_mk (a : List UInt8) (b : ByteArray) : (⟨a.toArray⟩ : ByteArray) ++ b = ⟨(a ++ b.data.toList).toArray⟩ := by
  apply ByteArray.ext
  simp
theorem str_val {a b : ByteArray} (h : a = b) : Value.string a = .string b := by rw [h]
theorem dec_step (l : List UInt8) (k : Nat) (h : k < l.length) : M2.decode (l.drop k) = match M2.one (l.drop k) with | none => l[k] :: M2.decode (l.drop (k + 1)) | some p => M1.enc p.1 ++ M2.decode (l.drop (k + p.2)) := by
  cases ho : M2.one (l.drop k) with
  | none =>
    have e : l.drop k = l[k] :: l.drop (k + 1) := List.drop_eq_getElem_cons h
    rw [e] at ho ⊢
    exact M2.decode_byte ho
  | some p =>
    obtain ⟨r, n⟩ := p
    rw [M2.decode_ref ho, List.drop_drop]
set_option maxHeartbeats 4000000 in
set_option maxRecDepth 100000 in
theorem ref02Decode (s : ByteArray) (w : World) (hs : s.size ≤ 1073741824) :
    Calls Tryz.prog 67 #[.string s] w fun e w' => e = .returned (.string ⟨(M2.decode s.data.toList).toArray⟩) ∧ Below w.heap.size w w' := by
  have hfr := fun (r : Int) (wr : World) => Sl.fresh' wr 21 [.int .i32 r] 1 rfl (by omega)
  have hbl := fun (wr : World) (o : Obj) => (Below.refl wr.heap.size wr).alloc (Nat.le_refl _) o
  replace hfr := Lib.hid hfr
  replace hbl := Lib.hid hbl
  generalize hD : M2.decode s.data.toList = D
  replace hD := Lib.hid hD
  go_enter Tryz.func67, Tryz.ntmps67
  go_wp2
  go_loopw [3, 4] (fun o i wr => ∃ (k : Nat) (acc : List UInt8), k ≤ s.size ∧ i = .int .i64 k ∧ o = .string ⟨acc.toArray⟩ ∧ acc.length ≤ 4 * k ∧ Below w.heap.size w wr ∧ Hid (D = acc ++ M2.decode (s.data.toList.drop k))) (fun _ i _ => s.size - (intOf i).toNat)
  case atStart => exact ⟨0, [], by omega, rfl, rfl, by simp, Below.refl _ _, hD.out.symm⟩
  case round =>
    obtain ⟨k, acc, hk, rfl, rfl, hal, hbw, hacc⟩ := hrel
    by_cases hlt : k < s.size
    · have hst := dec_step s.data.toList k hlt
      have hx : (s.extract k s.size).data.toList = s.data.toList.drop k := extract_end s k
      have hz : (s.extract k s.size).size ≤ 1073741824 := by rw [ByteArray.size_extract]; omega
      have hO := ref02One (s.extract k s.size) wr hz
      rw [hx] at hO
      have hbd := fun r n => M2.one_bd (l := s.data.toList.drop k) (r := r) (n := n)
      rw [List.length_drop, show s.data.toList.length = s.size from rfl] at hbd
      generalize M2.one (s.data.toList.drop k) = R at *
      have hx1 : (s.extract k (k + 1)).data.toList = [s[k]] := by
        rw [Lib.extract_data, show s.data.toList.drop k = s[k] :: s.data.toList.drop (k + 1) from List.drop_eq_getElem_cons hlt]
        simp
      replace hO := Lib.hid hO
      replace hx1 := Lib.hid hx1
      clear hx hz
      cases R with
      | none =>
        have hacc2 : Hid (D = (acc ++ (s.extract k (k + 1)).data.toList) ++ M2.decode (s.data.toList.drop (k + 1))) := by
          show _ = _
          rw [hacc.out, hst, hx1.out]
          simp only [List.append_assoc, List.singleton_append]
          rfl
        have hal2 : (acc ++ (s.extract k (k + 1)).data.toList).length ≤ 4 * (k + 1) := by
          rw [hx1.out]; simp; omega
        clear hst hbd hacc hx1
        rw [ansI_none] at hO
        go_wp2_with fail
        refine hO.out.mono ?_
        rintro e w2 ⟨rfl, b2⟩
        go_wp2
        go_roundw
        case rel => exact ⟨k + 1, _, by omega, by go_num, str_val (cat_mk _ _), hal2, bt hbw b2, hacc2⟩
        case measure => simp [intOf]; omega
      | some p =>
        obtain ⟨r, n⟩ := p
        obtain ⟨hn2, hnl, hok, _, _⟩ := hbd r n rfl
        have hrr : 0 ≤ r ∧ r ≤ 1114111 := by unfold M1.okRune at hok; omega
        obtain ⟨hr0, hr1⟩ := hrr
        have hel := M2.enc_len_le r
        have htx : M1.text [r] = M1.enc r := by simp [M1.text]
        have hacc2 : Hid (D = (acc ++ M1.text [r]) ++ M2.decode (s.data.toList.drop (k + n))) := by
          show _ = _
          rw [hacc.out, hst, htx, List.append_assoc]
        have hal2 : (acc ++ M1.text [r]).length ≤ 4 * (k + n) := by
          rw [List.length_append, htx]; omega
        have htl : (M1.text [r]).length ≤ 4 := by rw [htx]; exact hel.1
        clear hst hbd hacc hx1 hok htx
        rw [ansI_some] at hO
        have hn0 : ((n : Int) == 0) = false := beq_eq_false_iff_ne.2 (by omega)
        go_wp2_with fail
        refine hO.out.mono ?_
        rintro e w2 ⟨rfl, b2⟩
        go_wp2_with fail
        refine (ref01Text _ [r] _ (hfr.out r w2) (by intro x hx; simp at hx; omega) (by simp)).mono ?_
        rintro e w3 ⟨rfl, b3⟩
        have B3 := bt (bt hbw b2) (bt (hbl.out w2 _) b3)
        go_wp2
        go_roundw
        case rel => exact ⟨k + n, _, by omega, by go_num, str_val (cat_mk _ _), hal2, B3, hacc2⟩
        case measure => simp [intOf]; omega
    · obtain rfl : k = s.size := by omega
      have h := hacc.out
      rw [show s.data.toList.drop s.size = [] from List.drop_of_length_le (Nat.le_refl _), M2.decode_nil, List.append_nil] at h
      replace h := Lib.hid h
      clear hacc hlt
      go_wp2
      go_ret
      rw [h.out]
      exact ⟨rfl, hbw⟩
set_option maxHeartbeats 4000000 in
set_option maxRecDepth 100000 in
theorem ref02Escape (s : ByteArray) (v : Bool) (w : World) (hs : s.size ≤ 1073741824) :
    Calls Tryz.prog 61 #[.string s, .bool v] w fun e w' => e = .returned (.string ⟨(M2.escape v s.data.toList).toArray⟩) ∧ w' = w := by
  go_enter Tryz.func61, Tryz.ntmps61
  go_wp2
  go_loop [5, 6] (fun o i => ∃ k : Nat, k ≤ s.size ∧ i = .int .i64 k ∧ o = .string ⟨(M2.escape v (s.data.toList.take k)).toArray⟩) (fun _ i => s.size - (intOf i).toNat)
  case atStart => exact ⟨0, by omega, rfl, rfl⟩
  case round =>
    obtain ⟨k, hk, rfl, rfl⟩ := hrel
    by_cases hlt : k < s.size
    · have htk : M2.escape v (s.data.toList.take (k + 1)) = M2.escape v (s.data.toList.take k) ++ M2.esc v s[k] := by
        rw [show s.data.toList.take (k + 1) = s.data.toList.take k ++ [s[k]] from List.take_succ_eq_append_getElem (l := s.data.toList) hlt, M2.escape_append]
        simp [M2.escape]
      have hx1 : (s.extract k (k + 1)).data.toList = [s[k]] := by
        rw [Lib.extract_data, show s.data.toList.drop k = s[k] :: s.data.toList.drop (k + 1) from List.drop_eq_getElem_cons hlt]
        simp
      have hlen := M2.escape_len v (s.data.toList.take k)
      have hle1 : (s.data.toList.take k).length ≤ k := List.length_take_le _ _
      have fin : ∀ (add : ByteArray), M2.esc v s[k] = add.data.toList → (⟨(M2.escape v (s.data.toList.take k)).toArray⟩ : ByteArray) ++ add = ⟨(M2.escape v (s.data.toList.take (k + 1))).toArray⟩ := by
        intro add h
        rw [htk, h, cat_mk]
      replace fin := Lib.hid fin
      clear htk
      by_cases h38 : s[k] = 38
      · have F := Lib.hid (fin.out ⟨#[38, 97, 109, 112, 59]⟩ (by rw [h38]; rfl))
        clear fin hx1
        go_wp2
        go_round
        case rel => exact ⟨k + 1, by omega, by go_num, str_val F.out⟩
        case measure => simp [intOf]; omega
      have h38b : ((s[k].toNat : Int) == 38) = false := ne_byte (d := 38) h38
      by_cases h60 : s[k] = 60
      · have F := Lib.hid (fin.out ⟨#[38, 108, 116, 59]⟩ (by rw [h60]; rfl))
        clear fin hx1 h38
        go_wp2
        go_round
        case rel => exact ⟨k + 1, by omega, by go_num, str_val F.out⟩
        case measure => simp [intOf]; omega
      have h60b : ((s[k].toNat : Int) == 60) = false := ne_byte (d := 60) h60
      by_cases h62 : s[k] = 62
      · have F := Lib.hid (fin.out ⟨#[38, 103, 116, 59]⟩ (by rw [h62]; rfl))
        clear fin hx1 h38 h60
        go_wp2
        go_round
        case rel => exact ⟨k + 1, by omega, by go_num, str_val F.out⟩
        case measure => simp [intOf]; omega
      have h62b : ((s[k].toNat : Int) == 62) = false := ne_byte (d := 62) h62
      by_cases h34 : s[k] = 34
      · cases v
        · have F := Lib.hid (fin.out (s.extract k (k + 1)) (by rw [hx1, h34]; rfl))
          clear fin hx1 h38 h60 h62
          go_wp2
          go_round
          case rel => exact ⟨k + 1, by omega, by go_num, str_val F.out⟩
          case measure => simp [intOf]; omega
        · have F := Lib.hid (fin.out ⟨#[38, 113, 117, 111, 116, 59]⟩ (by rw [h34]; rfl))
          clear fin hx1 h38 h60 h62
          go_wp2
          go_round
          case rel => exact ⟨k + 1, by omega, by go_num, str_val F.out⟩
          case measure => simp [intOf]; omega
      have h34b : ((s[k].toNat : Int) == 34) = false := ne_byte (d := 34) h34
      have F := Lib.hid (fin.out (s.extract k (k + 1)) (by rw [hx1, M2.esc, if_neg h38, if_neg h60, if_neg h62, if_neg (fun e => h34 e.1)]))
      clear fin hx1 h38 h60 h62 h34
      go_wp2
      go_round
      case rel => exact ⟨k + 1, by omega, by go_num, str_val F.out⟩
      case measure => simp [intOf]; omega
    · obtain rfl : k = s.size := by omega
      have ht : s.data.toList.take s.size = s.data.toList := List.take_of_length_le (Nat.le_refl _)
      replace ht := Lib.hid ht
      clear hlt
      go_wp2
      go_ret
      rw [ht.out]
      exact ⟨rfl, rfl⟩
end Go.Proofs.YteefodibpjgicaaGreat

namespace Go.Proofs.YteefodibpjgicaaGreat
open Go.RowKit
def cellsA (l : List Att) : List Value := l.flatMap fun a => [.string a.name, .string a.value]
theorem cellsA_append (a b : List Att) : cellsA (a ++ b) = cellsA a ++ cellsA b := by simp [cellsA]
theorem cellsA_cons (a : Att) (l : List Att) : cellsA (a :: l) = .string a.name :: .string a.value :: cellsA l := rfl
theorem cellsA_one (l : List Att) : ∀ u ∈ cellsA l, u.oneCell' = true := by
  intro u hu
  obtain ⟨a, _, h⟩ := List.mem_flatMap.1 hu
  simp at h
  rcases h with rfl | rfl <;> rfl
theorem cellsA_at (l : List Att) (i : Nat) (h : i < l.length) : (cellsA l)[i * 2]? = some (.string l[i].name) ∧ (cellsA l)[i * 2 + 1]? = some (.string l[i].value) := by
  induction l generalizing i with
  | nil => simp at h
  | cons a r ih =>
    cases i with
    | zero => simp [cellsA_cons]
    | succ i =>
      have := ih i (by simpa using h)
      rw [cellsA_cons, show (i + 1) * 2 = i * 2 + 1 + 1 by omega]
      simpa using this
def Row (S : Nat → Prop) (w : World) (k : Nat) (v : Value) (n : Nat) (xs : List Value) : Prop :=
  xs.length = n * k ∧ ∃ (a : Option Addr) (cap : Nat), v = .slice a n cap ∧ n ≤ cap ∧ cap ≤ 9223372036854775807 ∧ (a = none → cap = 0) ∧
    (0 < n → ∃ b off, a = some ⟨b, off, none⟩ ∧ S b ∧ ∀ j u, xs[j]? = some u → w.cell? ⟨b, off + j, none⟩ = some u)
theorem Row.nil (S : Nat → Prop) (w : World) (k : Nat) : Row S w k (.slice none 0 0) 0 [] := ⟨by simp, none, 0, rfl, Nat.le_refl _, by omega, fun _ => rfl, fun h => absurd h (by omega)⟩
theorem Row.keep {S : Nat → Prop} {w w' : World} {k n : Nat} {v : Value} {xs : List Value} (h : Row S w k v n xs) (hk : ∀ b, S b → w'.heap[b]? = w.heap[b]?) : Row S w' k v n xs := by
  obtain ⟨h0, a, cap, h1, h2, h3, h4, h5⟩ := h
  refine ⟨h0, a, cap, h1, h2, h3, h4, fun hn => ?_⟩
  obtain ⟨b, off, h6, h7, h8⟩ := h5 hn
  exact ⟨b, off, h6, h7, fun j u hu => (World.cell?_of_block (a := ⟨b, off + j, none⟩) (hk b h7)).trans (h8 j u hu)⟩
theorem Row.mono {S S' : Nat → Prop} {w : World} {k n : Nat} {v : Value} {xs : List Value} (h : Row S w k v n xs) (hs : ∀ b, S b → S' b) : Row S' w k v n xs := by
  obtain ⟨h0, a, cap, h1, h2, h3, h4, h5⟩ := h
  refine ⟨h0, a, cap, h1, h2, h3, h4, fun hn => ?_⟩
  obtain ⟨b, off, h6, h7, h8⟩ := h5 hn
  exact ⟨b, off, h6, hs b h7, h8⟩
theorem Row.slice {S : Nat → Prop} {w : World} {k n : Nat} {v : Value} {xs : List Value} (h : Row S w k v n xs) : ∃ a cap, v = .slice a n cap := by
  obtain ⟨_, a, cap, h1, _⟩ := h
  exact ⟨a, cap, h1⟩
theorem Row.own {w : World} {B : Nat} {e : TypeId} {k n : Nat} {v : Value} {xs : List Value} (h : w.ownsRow B e k v n xs) {S : Nat → Prop} (hs : ∀ g, v.ownBlock = some g → S g) : Row S w k v n xs := by
  refine ⟨h.1, ?_⟩
  have hc := fun g hg => h.cells (g := g) hg
  rcases h.2 with ⟨rfl, rfl⟩ | ⟨g, cap, cur, rfl, _, hg, h1, h2, h3, h4⟩
  · exact ⟨none, 0, rfl, Nat.le_refl _, by omega, fun _ => rfl, fun h => absurd h (by omega)⟩
  · unfold maxLen at h2
    refine ⟨some ⟨g, 0, none⟩, cap, rfl, h1, by omega, (fun h => by cases h), fun _ => ⟨g, 0, rfl, hs g rfl, fun j u hu => ?_⟩⟩
    have h5 := hc g rfl j u hu
    rwa [add_plain'] at h5
def RepC (S : Nat → Prop) (w : World) : List Value → List Nd → Prop
  | xs, [] => xs = []
  | xs, .mk k n ats t ks :: r => ∃ va vk zs ys, xs = .int .i64 k :: .string n :: va :: .string t :: vk :: ys ∧ Row S w 2 va ats.length (cellsA ats) ∧ Row S w 5 vk ks.length zs ∧ RepC S w zs ks ∧ RepC S w ys r
termination_by _ l => SizeOf.sizeOf l
def RepN (S : Nat → Prop) (w : World) (v : Value) (l : List Nd) : Prop := ∃ xs, Row S w 5 v l.length xs ∧ RepC S w xs l
theorem RepC.nil (S : Nat → Prop) (w : World) : RepC S w [] [] := by rw [RepC]
theorem RepC.cons_iff {S : Nat → Prop} {w : World} {xs : List Value} {k : Int} {n : ByteArray} {ats : List Att} {t : ByteArray} {ks r : List Nd} :
    RepC S w xs (.mk k n ats t ks :: r) ↔ ∃ va vk ys, xs = .int .i64 k :: .string n :: va :: .string t :: vk :: ys ∧ Row S w 2 va ats.length (cellsA ats) ∧ RepN S w vk ks ∧ RepC S w ys r := by
  rw [RepC]
  constructor
  · rintro ⟨va, vk, zs, ys, h1, h2, h3, h4, h5⟩; exact ⟨va, vk, ys, h1, h2, ⟨zs, h3, h4⟩, h5⟩
  · rintro ⟨va, vk, ys, h1, h2, ⟨zs, h3, h4⟩, h5⟩; exact ⟨va, vk, zs, ys, h1, h2, h3, h4, h5⟩
theorem RepN.nil (S : Nat → Prop) (w : World) : RepN S w (.slice none 0 0) [] := ⟨[], Row.nil S w 5, RepC.nil S w⟩
theorem RepC.keep {S : Nat → Prop} {w w' : World} (hk : ∀ b, S b → w'.heap[b]? = w.heap[b]?) : ∀ (l : List Nd) (xs : List Value), RepC S w xs l → RepC S w' xs l := by
  intro l
  induction l using Nd.ind with
  | h0 => intro xs h; rw [RepC] at h ⊢; exact h
  | h1 k n ats t ks r ih1 ih2 =>
    intro xs h
    obtain ⟨va, vk, ys, h1, h2, ⟨zs, h3, h4⟩, h5⟩ := RepC.cons_iff.1 h
    exact RepC.cons_iff.2 ⟨va, vk, ys, h1, h2.keep hk, ⟨zs, h3.keep hk, ih1 _ h4⟩, ih2 _ h5⟩
theorem RepC.mono {S S' : Nat → Prop} {w : World} (hs : ∀ b, S b → S' b) : ∀ (l : List Nd) (xs : List Value), RepC S w xs l → RepC S' w xs l := by
  intro l
  induction l using Nd.ind with
  | h0 => intro xs h; rw [RepC] at h ⊢; exact h
  | h1 k n ats t ks r ih1 ih2 =>
    intro xs h
    obtain ⟨va, vk, ys, h1, h2, ⟨zs, h3, h4⟩, h5⟩ := RepC.cons_iff.1 h
    exact RepC.cons_iff.2 ⟨va, vk, ys, h1, h2.mono hs, ⟨zs, h3.mono hs, ih1 _ h4⟩, ih2 _ h5⟩
theorem RepN.keep {S : Nat → Prop} {w w' : World} {v : Value} {l : List Nd} (h : RepN S w v l) (hk : ∀ b, S b → w'.heap[b]? = w.heap[b]?) : RepN S w' v l := by
  obtain ⟨xs, h1, h2⟩ := h
  exact ⟨xs, h1.keep hk, RepC.keep hk _ _ h2⟩
theorem RepN.mono {S S' : Nat → Prop} {w : World} {v : Value} {l : List Nd} (h : RepN S w v l) (hs : ∀ b, S b → S' b) : RepN S' w v l := by
  obtain ⟨xs, h1, h2⟩ := h
  exact ⟨xs, h1.mono hs, RepC.mono hs _ _ h2⟩
theorem RepC.append {S : Nat → Prop} {w : World} {m : List Nd} {ys : List Value} (h : RepC S w ys m) : ∀ (l : List Nd) (xs : List Value), RepC S w xs l → RepC S w (xs ++ ys) (l ++ m) := by
  intro l
  induction l using Nd.ind with
  | h0 => intro xs h'; rw [RepC] at h'; subst h'; exact h
  | h1 k n ats t ks r _ ih2 =>
    intro xs h'
    obtain ⟨va, vk, zs, rfl, h2, h3, h5⟩ := RepC.cons_iff.1 h'
    exact RepC.cons_iff.2 ⟨va, vk, zs ++ ys, rfl, h2, h3, ih2 _ h5⟩
theorem RepC.drop {S : Nat → Prop} {w : World} : ∀ (l : List Nd) (xs : List Value) (i : Nat), RepC S w xs l → RepC S w (xs.drop (i * 5)) (l.drop i) := by
  intro l
  induction l using Nd.ind with
  | h0 => intro xs i h; rw [RepC] at h; subst h; simp [RepC.nil]
  | h1 k n ats t ks r _ ih2 =>
    intro xs i h
    cases i with
    | zero => simpa using h
    | succ i =>
      obtain ⟨va, vk, ys, rfl, _, _, h5⟩ := RepC.cons_iff.1 h
      rw [show (i + 1) * 5 = i * 5 + 1 + 1 + 1 + 1 + 1 by omega]
      simpa using ih2 ys i h5
structure RepV (S : Nat → Prop) (w : World) (x : Nd) (va vk : Value) : Prop where
  at_ : Row S w 2 va x.attrs.length (cellsA x.attrs)
  kids : RepN S w vk x.kids
theorem RepV.keep {S : Nat → Prop} {w w' : World} {x : Nd} {va vk : Value} (h : RepV S w x va vk) (hk : ∀ b, S b → w'.heap[b]? = w.heap[b]?) : RepV S w' x va vk := ⟨h.1.keep hk, h.2.keep hk⟩
theorem RepV.mono {S S' : Nat → Prop} {w : World} {x : Nd} {va vk : Value} (h : RepV S w x va vk) (hs : ∀ b, S b → S' b) : RepV S' w x va vk := ⟨h.1.mono hs, h.2.mono hs⟩
abbrev Nd.val (x : Nd) (va vk : Value) : Value := .agg #[.int .i64 x.kind, .string x.name, va, .string x.text, vk]
abbrev Nd.cells (x : Nd) (va vk : Value) : List Value := [.int .i64 x.kind, .string x.name, va, .string x.text, vk]
theorem RepC.single {S : Nat → Prop} {w : World} {x : Nd} {va vk : Value} (h : RepV S w x va vk) : RepC S w (x.cells va vk) [x] := by
  cases x
  exact RepC.cons_iff.2 ⟨va, vk, [], rfl, h.1, h.2, RepC.nil S w⟩
theorem RepC.at_ {S : Nat → Prop} {w : World} {l : List Nd} {xs : List Value} (h : RepC S w xs l) (i : Nat) (hi : i < l.length) :
    ∃ va vk, xs[i * 5]? = some (.int .i64 l[i].kind) ∧ xs[i * 5 + 1]? = some (.string l[i].name) ∧ xs[i * 5 + 2]? = some va ∧ xs[i * 5 + 3]? = some (.string l[i].text) ∧ xs[i * 5 + 4]? = some vk ∧ RepV S w l[i] va vk := by
  have h1 := RepC.drop _ _ i h
  rw [List.drop_eq_getElem_cons hi, Nd.eta l[i]] at h1
  obtain ⟨va, vk, ys, h2, h3, h4, _⟩ := RepC.cons_iff.1 h1
  have h5 : ∀ j, xs[i * 5 + j]? = (xs.drop (i * 5))[j]? := fun j => by rw [List.getElem?_drop]
  refine ⟨va, vk, ?_, ?_, ?_, ?_, ?_, ⟨h3, h4⟩⟩
  · have := h5 0; rw [h2] at this; simpa using this
  · rw [h5, h2]; rfl
  · rw [h5, h2]; rfl
  · rw [h5, h2]; rfl
  · rw [h5, h2]; rfl
theorem RepN.at_ {S : Nat → Prop} {w : World} {a : Option Addr} {n cap : Nat} {l : List Nd} (h : RepN S w (.slice a n cap) l) (i : Nat) (hi : i < l.length) :
    ∃ b off va vk, a = some ⟨b, off, none⟩ ∧ S b ∧ w.cell? ⟨b, off + i * 5, none⟩ = some (.int .i64 l[i].kind) ∧ w.cell? ⟨b, off + i * 5 + 1, none⟩ = some (.string l[i].name) ∧ w.cell? ⟨b, off + i * 5 + 2, none⟩ = some va ∧
      w.cell? ⟨b, off + i * 5 + 3, none⟩ = some (.string l[i].text) ∧ w.cell? ⟨b, off + i * 5 + 4, none⟩ = some vk ∧ RepV S w l[i] va vk := by
  obtain ⟨xs, ⟨h0, a', cap', h1, h2, h3, h4, h5⟩, h6⟩ := h
  cases h1
  obtain ⟨b, off, rfl, h7, h8⟩ := h5 (by omega)
  obtain ⟨va, vk, c0, c1, c2, c3, c4, hv⟩ := h6.at_ i hi
  exact ⟨b, off, va, vk, rfl, h7, h8 _ _ c0, h8 _ _ c1, h8 _ _ c2, h8 _ _ c3, h8 _ _ c4, hv⟩
theorem RepN.len {S : Nat → Prop} {w : World} {a : Option Addr} {n cap : Nat} {l : List Nd} (h : RepN S w (.slice a n cap) l) : n = l.length ∧ n ≤ cap ∧ cap ≤ 9223372036854775807 := by
  obtain ⟨xs, ⟨h0, a', cap', h1, h2, h3, h4, h5⟩, h6⟩ := h
  cases h1
  exact ⟨rfl, h2, h3⟩
theorem RepN.slice {S : Nat → Prop} {w : World} {v : Value} {l : List Nd} (h : RepN S w v l) : ∃ a cap, v = .slice a l.length cap := by
  obtain ⟨xs, h1, h6⟩ := h
  exact h1.slice
theorem Row.atA {S : Nat → Prop} {w : World} {a : Option Addr} {n cap : Nat} {l : List Att} (h : Row S w 2 (.slice a n cap) l.length (cellsA l)) (i : Nat) (hi : i < l.length) :
    ∃ b off, a = some ⟨b, off, none⟩ ∧ S b ∧ w.cell? ⟨b, off + i * 2, none⟩ = some (.string l[i].name) ∧ w.cell? ⟨b, off + i * 2 + 1, none⟩ = some (.string l[i].value) := by
  obtain ⟨h0, a', cap', h1, h2, h3, h4, h5⟩ := h
  cases h1
  obtain ⟨b, off, rfl, h7, h8⟩ := h5 (by omega)
  obtain ⟨c0, c1⟩ := cellsA_at l i hi
  exact ⟨b, off, rfl, h7, h8 _ _ c0, h8 _ _ c1⟩
theorem Row.len {S : Nat → Prop} {w : World} {a : Option Addr} {n m k cap : Nat} {xs : List Value} (h : Row S w k (.slice a n cap) m xs) : n = m ∧ n ≤ cap ∧ cap ≤ 9223372036854775807 := by
  obtain ⟨h0, a', cap', h1, h2, h3, h4, h5⟩ := h
  cases h1
  exact ⟨rfl, h2, h3⟩
def Box (w : World) (g : Nat) (t : TypeId) (cs : List Value) : Prop := w.heap[g]? = some (.cells cs.toArray t (0, 0))
section
variable {w w' : World} {g : Nat} {t : TypeId} {cs : List Value}
theorem Box.new (w : World) (t : TypeId) (cs : List Value) : Box (w.alloc (.cells cs.toArray t)) w.heap.size t cs := heap_alloc_new w _
theorem Box.lt (h : Box w g t cs) : g < w.heap.size := (Array.getElem?_eq_some_iff.1 h).1
theorem Box.cell (h : Box w g t cs) {i : Nat} {v : Value} (hv : cs[i]? = some v) : w.cell? ⟨g, i, none⟩ = some v := by
  rw [cell_of_row w g i cs.toArray t (0, 0) h]
  simpa using hv
theorem Box.free (h : Box w g t cs) (i : Nat) : w.frozen? ⟨g, i, none⟩ = false := by
  unfold Box at h
  simp [World.frozen?, h]
theorem Box.keep (h : Box w g t cs) (hk : w'.heap[g]? = w.heap[g]?) : Box w' g t cs := hk.trans h
theorem Box.below {B : Nat} (h : Box w g t cs) (hb : Below B w w') (hg : g < B) : Box w' g t cs := h.keep (hb.block g hg)
theorem Box.alloc (h : Box w g t cs) (o : Obj) : Box (w.alloc o) g t cs := h.keep (Below.heap_alloc w o g h.lt)
theorem Box.far (h : Box w g t cs) {p : Addr} (hp : g ≠ p.block) (u : Value) : Box (w.setCell p u) g t cs := h.keep (Below.heap_setCell w p u g hp)
theorem Box.set (h : Box w g t cs) (i : Nat) (u : Value) : Box (w.setCell ⟨g, i, none⟩ u) g t (cs.set i u) := by
  unfold Box at h ⊢
  simp [World.setCell, Array.getElem?_modify, h]
end
end Go.Proofs.YteefodibpjgicaaGreat

namespace Go.Proofs.YteefodibpjgicaaGreat
open Go.RowKit
set_option maxHeartbeats 1000000 in
theorem ref05blank (c : UInt8) (w : World) : Calls Tryz.prog 91 #[.int .u8 (c.toNat : Int)] w fun e w' => e = .returned (.bool (M5.blankB c)) ∧ w = w' := by
  have key : ∀ d : UInt8, ((c.toNat : Int) == (d.toNat : Int)) = (c == d) := by
    intro d
    by_cases h : c = d
    · subst h; simp
    · rw [ne_byte h]; simp [h]
  have e : Hid (M5.blankB c = (((c.toNat : Int) == 9) || ((c.toNat : Int) == 10) || ((c.toNat : Int) == 12) || ((c.toNat : Int) == 32))) := by
    show _ = _
    unfold M5.blankB
    rw [← key 9, ← key 10, ← key 12, ← key 32]
    rfl
  clear key
  rw [e.out]
  generalize (c.toNat : Int) = n at *
  clear e
  cases h9 : (n == 9)
  · cases h10 : (n == 10)
    · cases h12 : (n == 12)
      · go_enter Tryz.func91, Tryz.ntmps91
        go_wp2
        go_ret
        exact ⟨rfl, rfl⟩
      · go_enter Tryz.func91, Tryz.ntmps91
        go_wp2
        go_ret
        exact ⟨rfl, rfl⟩
    · go_enter Tryz.func91, Tryz.ntmps91
      go_wp2
      go_ret
      exact ⟨rfl, rfl⟩
  · go_enter Tryz.func91, Tryz.ntmps91
    go_wp2
    go_ret
    exact ⟨rfl, rfl⟩
set_option maxHeartbeats 1000000 in
theorem ref05letter (c : UInt8) (w : World) : Calls Tryz.prog 84 #[.int .u8 (c.toNat : Int)] w fun e w' => e = .returned (.bool (M5.letterB c)) ∧ w = w' := by
  rw [show M5.letterB c = (decide (65 ≤ c.toNat ∧ c.toNat ≤ 90) || decide (97 ≤ c.toNat ∧ c.toNat ≤ 122)) from rfl]
  generalize c.toNat = n at *
  by_cases h1 : 65 ≤ n
  · by_cases h2 : n ≤ 90
    · have hr : (decide (65 ≤ n ∧ n ≤ 90) || decide (97 ≤ n ∧ n ≤ 122)) = true := by simp [h1, h2]
      rw [hr]
      clear hr
      go_enter Tryz.func84, Tryz.ntmps84
      go_wp2
      go_ret
      exact ⟨(show Ending.returned (Value.bool _) = Ending.returned (Value.bool _) from congrArg (fun b => Ending.returned (Value.bool b)) (by first | rfl | (rw [Bool.eq_iff_iff]; simp; omega))), rfl⟩
    · by_cases h3 : 97 ≤ n
      · by_cases h4 : n ≤ 122
        · have hr : (decide (65 ≤ n ∧ n ≤ 90) || decide (97 ≤ n ∧ n ≤ 122)) = true := by simp [h3, h4]
          rw [hr]
          clear hr
          go_enter Tryz.func84, Tryz.ntmps84
          go_wp2
          go_ret
          exact ⟨(show Ending.returned (Value.bool _) = Ending.returned (Value.bool _) from congrArg (fun b => Ending.returned (Value.bool b)) (by first | rfl | (rw [Bool.eq_iff_iff]; simp; omega))), rfl⟩
        · have hr : (decide (65 ≤ n ∧ n ≤ 90) || decide (97 ≤ n ∧ n ≤ 122)) = false := by simp [h2, h4]
          rw [hr]
          clear hr
          go_enter Tryz.func84, Tryz.ntmps84
          go_wp2
          go_ret
          exact ⟨(show Ending.returned (Value.bool _) = Ending.returned (Value.bool _) from congrArg (fun b => Ending.returned (Value.bool b)) (by first | rfl | (rw [Bool.eq_iff_iff]; simp; omega))), rfl⟩
      · have hr : (decide (65 ≤ n ∧ n ≤ 90) || decide (97 ≤ n ∧ n ≤ 122)) = false := by simp [h2, h3]
        rw [hr]
        clear hr
        go_enter Tryz.func84, Tryz.ntmps84
        go_wp2
        go_ret
        exact ⟨(show Ending.returned (Value.bool _) = Ending.returned (Value.bool _) from congrArg (fun b => Ending.returned (Value.bool b)) (by first | rfl | (rw [Bool.eq_iff_iff]; simp; omega))), rfl⟩
  · have hr : (decide (65 ≤ n ∧ n ≤ 90) || decide (97 ≤ n ∧ n ≤ 122)) = false := by simp; omega
    have h3 : ¬ 97 ≤ n := by omega
    rw [hr]
    clear hr
    go_enter Tryz.func84, Tryz.ntmps84
    go_wp2
    go_ret
    exact ⟨(show Ending.returned (Value.bool _) = Ending.returned (Value.bool _) from congrArg (fun b => Ending.returned (Value.bool b)) (by first | rfl | (rw [Bool.eq_iff_iff]; simp; omega))), rfl⟩
set_option maxHeartbeats 1000000 in
theorem ref05named (c : UInt8) (w : World) : Calls Tryz.prog 102 #[.int .u8 (c.toNat : Int)] w fun e w' => e = .returned (.bool (M5.nameB c)) ∧ w = w' := by
  have hL := Lib.hid (fun w => ref05letter c w)
  have key : (c == 45) = ((c.toNat : Int) == 45) := by
    by_cases h : c = 45
    · subst h; rfl
    · have : ((c.toNat : Int) == 45) = false := ne_byte (d := 45) h
      rw [this]; simp [h]
  rw [show M5.nameB c = (M5.letterB c || decide (48 ≤ c.toNat ∧ c.toNat ≤ 57) || (c == 45)) from rfl, key]
  clear key
  generalize M5.letterB c = lb at *
  generalize c.toNat = n at *
  cases lb
  · by_cases h1 : 48 ≤ n
    · by_cases h2 : n ≤ 57
      · have hr : (false || decide (48 ≤ n ∧ n ≤ 57) || ((n : Int) == 45)) = true := by simp [h1, h2]
        rw [hr]
        clear hr
        go_enter Tryz.func102, Tryz.ntmps102
        go_wp2_with fail
        refine (hL.out _).mono ?_
        rintro e1 w1 ⟨rfl, rfl⟩
        go_wp2
        go_ret
        exact ⟨(show Ending.returned (Value.bool _) = Ending.returned (Value.bool _) from congrArg (fun b => Ending.returned (Value.bool b)) (by first | rfl | (rw [Bool.eq_iff_iff]; simp; omega))), rfl⟩
      · have h45 : ((n : Int) == 45) = false := by simp; omega
        have hr : (false || decide (48 ≤ n ∧ n ≤ 57) || ((n : Int) == 45)) = false := by rw [h45]; simp [h2]
        rw [hr]
        clear hr
        go_enter Tryz.func102, Tryz.ntmps102
        go_wp2_with fail
        refine (hL.out _).mono ?_
        rintro e1 w1 ⟨rfl, rfl⟩
        go_wp2
        go_ret
        exact ⟨(show Ending.returned (Value.bool _) = Ending.returned (Value.bool _) from congrArg (fun b => Ending.returned (Value.bool b)) (by first | rfl | (rw [Bool.eq_iff_iff]; simp; omega))), rfl⟩
    · cases h45 : ((n : Int) == 45)
      · have hr : (false || decide (48 ≤ n ∧ n ≤ 57) || false) = false := by simp [h1]
        rw [hr]
        clear hr
        go_enter Tryz.func102, Tryz.ntmps102
        go_wp2_with fail
        refine (hL.out _).mono ?_
        rintro e1 w1 ⟨rfl, rfl⟩
        go_wp2
        go_ret
        exact ⟨(show Ending.returned (Value.bool _) = Ending.returned (Value.bool _) from congrArg (fun b => Ending.returned (Value.bool b)) (by first | rfl | (rw [Bool.eq_iff_iff]; simp; omega))), rfl⟩
      · have hr : (false || decide (48 ≤ n ∧ n ≤ 57) || true) = true := by simp
        rw [hr]
        clear hr
        go_enter Tryz.func102, Tryz.ntmps102
        go_wp2_with fail
        refine (hL.out _).mono ?_
        rintro e1 w1 ⟨rfl, rfl⟩
        go_wp2
        go_ret
        exact ⟨(show Ending.returned (Value.bool _) = Ending.returned (Value.bool _) from congrArg (fun b => Ending.returned (Value.bool b)) (by first | rfl | (rw [Bool.eq_iff_iff]; simp; omega))), rfl⟩
  · have hr : (true || decide (48 ≤ n ∧ n ≤ 57) || ((n : Int) == 45)) = true := by simp
    rw [hr]
    clear hr
    go_enter Tryz.func102, Tryz.ntmps102
    go_wp2_with fail
    refine (hL.out _).mono ?_
    rintro e1 w1 ⟨rfl, rfl⟩
    go_wp2
    go_ret
    exact ⟨(show Ending.returned (Value.bool _) = Ending.returned (Value.bool _) from congrArg (fun b => Ending.returned (Value.bool b)) (by first | rfl | (rw [Bool.eq_iff_iff]; simp; omega))), rfl⟩
def BoolPost (b : Bool) (w : World) (e : Ending) (w' : World) : Prop := e = .returned (.bool b) ∧ w = w'
theorem eqI (c d : UInt8) : (c == d) = ((c.toNat : Int) == (d.toNat : Int)) := by
  by_cases h : c = d
  · subst h; simp
  · rw [ne_byte h]; simp [h]
theorem drop_cons (s : ByteArray) (i : Nat) (h : i < s.size) : s.data.toList.drop i = s[i] :: s.data.toList.drop (i + 1) := List.drop_eq_getElem_cons (l := s.data.toList) h
theorem drop_end (s : ByteArray) (i : Nat) (h : s.size ≤ i) : s.data.toList.drop i = [] := List.drop_of_length_le h
set_option maxHeartbeats 2000000 in
theorem ref05Starts (s : ByteArray) (w : World) (hs : s.size ≤ 1073741824) : Calls Tryz.prog 66 #[.string s] w (BoolPost (M5.startsB s.data.toList) w) := by
  by_cases h2 : s.size < 2
  · have e : M5.startsB s.data.toList = false := by
      have : s.data.toList.length < 2 := h2
      generalize s.data.toList = l at *
      match l with
      | [] => rfl
      | [_] => rfl
      | _ :: _ :: _ => simp at this; omega
    rw [e]
    clear e
    go_enter Tryz.func66, Tryz.ntmps66
    go_wp2
    go_ret
    exact ⟨rfl, rfl⟩
  · have e : M5.startsB s.data.toList = (((s[0]'(by omega)) == 60) && (M5.letterB (s[1]'(by omega)) || (s[1]'(by omega)) == 33 || (s[1]'(by omega)) == 63 || (s[1]'(by omega)) == 47)) := by
      have : s.data.toList = s[0] :: s[1] :: s.data.toList.drop 2 := by
        rw [← drop_cons s 1 (by omega)]
        have := drop_cons s 0 (by omega)
        simpa using this
      rw [this]
      rfl
    have hL := Lib.hid (fun w => ref05letter (s[1]'(by omega)) w)
    have i0 : 0 < s.size := by omega
    have i1 : 1 < s.size := by omega
    rw [eqI, eqI, eqI, eqI] at e
    change M5.startsB s.data.toList = (((s[0].toNat : Int) == 60) && (M5.letterB s[1] || ((s[1].toNat : Int) == 33) || ((s[1].toNat : Int) == 63) || ((s[1].toNat : Int) == 47))) at e
    rw [e]
    clear e
    cases h60 : ((s[0].toNat : Int) == 60)
    · have hn : ((s[0].toNat : Int) != 60) = true := by rw [bne, h60]; rfl
      go_enter Tryz.func66, Tryz.ntmps66
      go_wp2
      go_ret
      exact ⟨rfl, rfl⟩
    · have hn : ((s[0].toNat : Int) != 60) = false := by rw [bne, h60]; rfl
      cases hl : M5.letterB s[1]
      · cases h33 : ((s[1].toNat : Int) == 33)
        · cases h63 : ((s[1].toNat : Int) == 63)
          · go_enter Tryz.func66, Tryz.ntmps66
            go_wp2_with fail
            refine (hL.out _).mono ?_
            rintro e1 w1 ⟨rfl, rfl⟩
            rw [hl]
            go_wp2_with fail
            go_ret
            exact ⟨rfl, rfl⟩
          · go_enter Tryz.func66, Tryz.ntmps66
            go_wp2_with fail
            refine (hL.out _).mono ?_
            rintro e1 w1 ⟨rfl, rfl⟩
            rw [hl]
            go_wp2_with fail
            go_ret
            exact ⟨rfl, rfl⟩
        · go_enter Tryz.func66, Tryz.ntmps66
          go_wp2_with fail
          refine (hL.out _).mono ?_
          rintro e1 w1 ⟨rfl, rfl⟩
          rw [hl]
          go_wp2_with fail
          go_ret
          exact ⟨rfl, rfl⟩
      · go_enter Tryz.func66, Tryz.ntmps66
        go_wp2_with fail
        refine (hL.out _).mono ?_
        rintro e1 w1 ⟨rfl, rfl⟩
        rw [hl]
        go_wp2_with fail
        go_ret
        exact ⟨rfl, rfl⟩
theorem rf_meas {n k : Nat} (h : k < n) : n - (intOf (.int .i64 ((k : Int) + 1))).toNat < n - (intOf (.int .i64 (k : Int))).toNat := by
  simp [intOf]; omega
theorem find_yes (wd l : List UInt8) (h : l.take wd.length = wd) (hw : 0 < wd.length) (hl : wd.length ≤ l.length) : M5.findL wd l = 0 := by
  cases l with
  | nil => have : wd.length ≤ 0 := hl; omega
  | cons c r =>
    rw [M5.findL, if_pos]
    rw [List.isPrefixOf_iff_prefix]
    exact ⟨(c :: r).drop wd.length, by conv => lhs; lhs; rw [← h]
                                       exact List.take_append_drop _ _⟩
theorem find_no (wd : List UInt8) (c : UInt8) (r : List UInt8) (h : (c :: r).take wd.length ≠ wd) : M5.findL wd (c :: r) = M5.findL wd r + 1 := by
  rw [M5.findL, if_neg]
  intro hp
  rw [List.isPrefixOf_iff_prefix] at hp
  obtain ⟨t, ht⟩ := hp
  exact h (by rw [← ht]; simp)
theorem find_short (wd l : List UInt8) (h : l.length < wd.length) : M5.findL wd l = l.length := by
  induction l with
  | nil => rfl
  | cons c r ih =>
    have : (c :: r).take wd.length ≠ wd := fun e => by
      have := congrArg List.length e
      rw [List.length_take] at this
      omega
    rw [find_no wd c r this, ih (by simp at h; omega)]
    rfl
def PosPost (n : Nat) (w : World) (e : Ending) (w' : World) : Prop := e = .returned (.int .i64 (n : Int)) ∧ w = w'
set_option maxHeartbeats 2000000 in
set_option maxRecDepth 100000 in
theorem ref05find (s wd : ByteArray) (at_ : Nat) (w : World) (hs : s.size ≤ 1073741824) (hw1 : 0 < wd.size) (hw2 : wd.size ≤ 1073741824) (ha : at_ ≤ s.size) :
    Calls Tryz.prog 88 #[.string s, .int .i64 (at_ : Int), .string wd] w (PosPost (at_ + M5.findL wd.data.toList (s.data.toList.drop at_)) w) := by
  obtain ⟨N, h0⟩ : ∃ N, Hid (N = at_ + M5.findL wd.data.toList (s.data.toList.drop at_)) := ⟨_, rfl⟩
  rw [← h0.out]
  have hwl : wd.data.toList.length = wd.size := rfl
  go_enter Tryz.func88, Tryz.ntmps88
  go_wp2_with fail
  go_loop [7] (fun u7 => ∃ i : Nat, i ≤ s.size ∧ u7 = .int .i64 (i : Int) ∧ Hid (N = i + M5.findL wd.data.toList (s.data.toList.drop i))) (fun u7 => s.size - (intOf u7).toNat)
  case atStart => exact ⟨at_, ha, rfl, h0⟩
  case round =>
    obtain ⟨i, hi, rfl, hv⟩ := hrel
    by_cases hlt : i + wd.size ≤ s.size
    · have hil : i < s.size := by omega
      have hx : (s.extract i (i + wd.size)).data.toList = (s.data.toList.drop i).take wd.size := by
        rw [Lib.extract_data]; congr 1; omega
      by_cases heq : s.extract i (i + wd.size) = wd
      · have hf : M5.findL wd.data.toList (s.data.toList.drop i) = 0 := find_yes _ _ (by rw [hwl, ← hx, heq]) (by omega) (by rw [hwl, List.length_drop]; show _ ≤ s.size - i; omega)
        have hb : ((s.extract i (i + wd.size)).toList == wd.toList) = true := by rw [heq]; simp
        have hN : Hid (N = i) := by show _ = _; rw [hv.out, hf]; rfl
        replace hf := Lib.hid hf
        replace hx := Lib.hid hx
        replace heq := Lib.hid heq
        go_wp2_with fail
        go_ret
        exact ⟨by rw [hN.out]; rfl, rfl⟩
      · have hne : (s.data.toList.drop i).take wd.data.toList.length ≠ wd.data.toList := fun e => heq (ByteArray.ext (Array.ext' (by rw [hx, ← e]; rfl)))
        have hf : M5.findL wd.data.toList (s.data.toList.drop i) = M5.findL wd.data.toList (s.data.toList.drop (i + 1)) + 1 := by
          rw [drop_cons s i hil] at hne ⊢
          exact find_no _ _ _ hne
        have hb : ((s.extract i (i + wd.size)).toList == wd.toList) = false := by
          rw [beq_eq_false_iff_ne]
          intro e
          exact heq (ByteArray.ext (Array.ext' (by rw [← Lib.toList_data, ← Lib.toList_data]; exact e)))
        have hv2 : Hid (N = i + 1 + M5.findL wd.data.toList (s.data.toList.drop (i + 1))) := by show _ = _; rw [hv.out, hf]; omega
        replace hf := Lib.hid hf
        replace hx := Lib.hid hx
        replace heq := Lib.hid heq
        replace hne := Lib.hid hne
        go_wp2_with fail
        go_round
        case rel => exact ⟨i + 1, by omega, by go_num, hv2⟩
        case measure => exact rf_meas hil
    · have hf : M5.findL wd.data.toList (s.data.toList.drop i) = (s.data.toList.drop i).length := find_short _ _ (by rw [List.length_drop]; show s.size - i < wd.size; omega)
      have hN : Hid (N = s.size) := by show _ = _; rw [hv.out, hf, List.length_drop]; show i + (s.size - i) = _; omega
      replace hf := Lib.hid hf
      go_wp2_with fail
      go_ret
      exact ⟨by rw [hN.out]; rfl, rfl⟩
theorem span_step (p : UInt8 → Bool) (s : ByteArray) (i : Nat) (h : i < s.size) : M5.spanN p (s.data.toList.drop i) = if p s[i] then M5.spanN p (s.data.toList.drop (i + 1)) + 1 else 0 := by
  unfold M5.spanN
  rw [drop_cons s i h, List.takeWhile_cons]
  cases p s[i] <;> simp
theorem span_end (p : UInt8 → Bool) (s : ByteArray) (i : Nat) (h : s.size ≤ i) : M5.spanN p (s.data.toList.drop i) = 0 := by
  rw [drop_end s i h]; rfl
theorem span_bound (p : UInt8 → Bool) (s : ByteArray) (i : Nat) (h : i ≤ s.size) : i + M5.spanN p (s.data.toList.drop i) ≤ s.size := by
  have := M5.spanN_le p (s.data.toList.drop i)
  rw [List.length_drop] at this
  have h2 : s.data.toList.length = s.size := rfl
  omega
def NamePost (nm : List UInt8) (n : Nat) (w : World) (e : Ending) (w' : World) : Prop := e = .returned (.tuple #[.string ⟨nm.toArray⟩, .int .i64 (n : Int)]) ∧ Below w.heap.size w w'
set_option maxHeartbeats 2000000 in
set_option maxRecDepth 100000 in
theorem ref05name (s : ByteArray) (at_ : Nat) (w : World) (hs : s.size ≤ 1073741824) (ha : at_ ≤ s.size) :
    Calls Tryz.prog 89 #[.string s, .int .i64 (at_ : Int)] w (NamePost (M1.fold ((s.data.toList.drop at_).takeWhile M5.nameB)) (at_ + M5.spanN M5.nameB (s.data.toList.drop at_)) w) := by
  obtain ⟨N, h0⟩ : ∃ N, Hid (N = at_ + M5.spanN M5.nameB (s.data.toList.drop at_)) := ⟨_, rfl⟩
  have hNs : N ≤ s.size := by rw [h0.out]; exact span_bound _ s at_ ha
  have hNa : at_ ≤ N := by rw [h0.out]; omega
  have hex : Hid ((s.data.toList.drop at_).takeWhile M5.nameB = (s.data.toList.drop at_).take (N - at_)) := by show _ = _; rw [← M5.span_take, h0.out, Nat.add_sub_cancel_left]
  rw [← h0.out, hex.out]
  clear hex
  go_enter Tryz.func89, Tryz.ntmps89
  go_wp2_with fail
  go_loop [6] (fun u6 => ∃ i : Nat, i ≤ s.size ∧ u6 = .int .i64 (i : Int) ∧ Hid (N = i + M5.spanN M5.nameB (s.data.toList.drop i))) (fun u6 => s.size - (intOf u6).toNat)
  case atStart => exact ⟨at_, ha, rfl, h0⟩
  case round =>
    obtain ⟨i, hi, rfl, hv⟩ := hrel
    by_cases hil : i < s.size
    · have hN := Lib.hid (fun w => ref05named s[i] w)
      have hst := span_step M5.nameB s i hil
      cases hb : M5.nameB s[i]
      · rw [hb, if_neg (by simp)] at hst
        have hN2 : Hid (N = i) := by show _ = _; rw [hv.out, hst]; rfl
        obtain rfl : N = i := hN2.out
        replace hst := Lib.hid hst
        clear hN2 hv
        go_wp2_with (go_at_call 102; refine (hN.out _).mono ?_; rintro e1 w1 ⟨rfl, rfl⟩; rw [hb])
        refine (ref01Fold (s.extract at_ N) _ (by rw [ByteArray.size_extract]; omega)).mono ?_
        rintro e1 w1 ⟨rfl, hb1⟩
        go_wp2_with fail
        go_ret2
        exact ⟨rfl, hb1⟩
      · rw [hb, if_pos rfl] at hst
        have hv2 : Hid (N = i + 1 + M5.spanN M5.nameB (s.data.toList.drop (i + 1))) := by show _ = _; rw [hv.out, hst]; omega
        replace hst := Lib.hid hst
        go_wp2_with (go_at_call 102; refine (hN.out _).mono ?_; rintro e1 w1 ⟨rfl, rfl⟩; rw [hb])
        go_round
        case rel => exact ⟨i + 1, by omega, by go_num, hv2⟩
        case measure => exact rf_meas hil
    · obtain rfl : i = s.size := by omega
      have hN2 : N = s.size := by rw [hv.out, span_end _ s _ (Nat.le_refl _)]; rfl
      subst hN2
      clear hv
      go_wp2_with fail
      refine (ref01Fold (s.extract at_ s.size) _ (by rw [ByteArray.size_extract]; omega)).mono ?_
      rintro e1 w1 ⟨rfl, hb1⟩
      go_wp2_with fail
      go_ret2
      exact ⟨rfl, hb1⟩
theorem eqN (c : UInt8) (d : UInt8) : ((c.toNat : Int) != (d.toNat : Int)) = !(c == d) := by rw [bne, ← eqI]
theorem drop_while (p : UInt8 → Bool) (l : List UInt8) (i : Nat) : (l.drop i).dropWhile p = l.drop (i + M5.spanN p (l.drop i)) := by
  rw [← M5.span_drop, List.drop_drop]
theorem take_while (p : UInt8 → Bool) (l : List UInt8) (i : Nat) : (l.drop i).takeWhile p = (l.drop i).take (M5.spanN p (l.drop i)) := (M5.span_take _ _).symm
def npB (c : UInt8) : Bool := !M5.stopB c
def nvB (c : UInt8) : Bool := !M5.blankB c && c != 62
theorem attr_bare (s : ByteArray) (at_ E I1 : Nat) (hE : E = at_ + M5.spanN npB (s.data.toList.drop at_)) (h1 : I1 = E + M5.spanN M5.blankB (s.data.toList.drop E)) (hI : I1 ≤ s.size) (hno : ∀ h : I1 < s.size, s[I1] ≠ 61) :
    M5.attrAt (s.data.toList.drop at_) = (⟨M5.bs (M1.fold ((s.data.toList.drop at_).take (E - at_))), ⟨#[]⟩⟩, s.data.toList.drop I1, true) := by
  have e1 : ((s.data.toList.drop at_).dropWhile fun c => !M5.stopB c).dropWhile M5.blankB = s.data.toList.drop I1 := by
    rw [show ((s.data.toList.drop at_).dropWhile fun c => !M5.stopB c) = (s.data.toList.drop at_).dropWhile npB from rfl, drop_while, ← hE, drop_while, ← h1]
  have e2 : ((s.data.toList.drop at_).takeWhile fun c => !M5.stopB c) = (s.data.toList.drop at_).take (E - at_) := by
    rw [show ((s.data.toList.drop at_).takeWhile fun c => !M5.stopB c) = (s.data.toList.drop at_).takeWhile npB from rfl, take_while]
    congr 1
    omega
  unfold M5.attrAt
  rw [e1, e2]
  by_cases h : I1 < s.size
  · rw [drop_cons s I1 h]
    have := hno h
    split
    · rename_i r he
      injection he with he1 _
      exact absurd he1 this
    · rfl
  · rw [drop_end s I1 (by omega)]
theorem attr_eq (s : ByteArray) (at_ E I1 : Nat) (hE : E = at_ + M5.spanN npB (s.data.toList.drop at_)) (h1 : I1 = E + M5.spanN M5.blankB (s.data.toList.drop E)) (h : I1 < s.size) (h61 : s[I1] = 61) :
    M5.attrAt (s.data.toList.drop at_) = M5.valueAt (M5.bs (M1.fold ((s.data.toList.drop at_).take (E - at_)))) (s.data.toList.drop (I1 + 1)) := by
  have e1 : ((s.data.toList.drop at_).dropWhile fun c => !M5.stopB c).dropWhile M5.blankB = s.data.toList.drop I1 := by
    rw [show ((s.data.toList.drop at_).dropWhile fun c => !M5.stopB c) = (s.data.toList.drop at_).dropWhile npB from rfl, drop_while, ← hE, drop_while, ← h1]
  have e2 : ((s.data.toList.drop at_).takeWhile fun c => !M5.stopB c) = (s.data.toList.drop at_).take (E - at_) := by
    rw [show ((s.data.toList.drop at_).takeWhile fun c => !M5.stopB c) = (s.data.toList.drop at_).takeWhile npB from rfl, take_while]
    congr 1
    omega
  unfold M5.attrAt
  rw [e1, e2, drop_cons s I1 h, h61]
  rfl
theorem value_end (s : ByteArray) (nm : ByteArray) (j I2 : Nat) (h2 : I2 = j + M5.spanN M5.blankB (s.data.toList.drop j)) (h : s.size ≤ I2) : M5.valueAt nm (s.data.toList.drop j) = (⟨nm, M5.bs (M2.decode [])⟩, [], true) := by
  unfold M5.valueAt
  rw [drop_while, ← h2, drop_end s I2 h]
theorem value_quote (s : ByteArray) (nm : ByteArray) (j I2 : Nat) (h2 : I2 = j + M5.spanN M5.blankB (s.data.toList.drop j)) (h : I2 < s.size) (hq : s[I2] = 34 ∨ s[I2] = 39) :
    M5.valueAt nm (s.data.toList.drop j) = if M5.findL [s[I2]] (s.data.toList.drop (I2 + 1)) < (s.data.toList.drop (I2 + 1)).length then (⟨nm, M5.bs (M2.decode ((s.data.toList.drop (I2 + 1)).take (M5.findL [s[I2]] (s.data.toList.drop (I2 + 1)))))⟩, (s.data.toList.drop (I2 + 1)).drop (M5.findL [s[I2]] (s.data.toList.drop (I2 + 1)) + 1), true) else (⟨nm, ⟨#[]⟩⟩, [], false) := by
  unfold M5.valueAt
  rw [drop_while, ← h2, drop_cons s I2 h]
  dsimp only
  rw [if_pos hq]
theorem value_bare (s : ByteArray) (nm : ByteArray) (j I2 : Nat) (h2 : I2 = j + M5.spanN M5.blankB (s.data.toList.drop j)) (h : I2 < s.size) (hq : ¬ (s[I2] = 34 ∨ s[I2] = 39)) :
    M5.valueAt nm (s.data.toList.drop j) = (⟨nm, M5.bs (M2.decode ((s.data.toList.drop I2).take (M5.spanN nvB (s.data.toList.drop I2))))⟩, s.data.toList.drop (I2 + M5.spanN nvB (s.data.toList.drop I2)), true) := by
  rw [← drop_while, ← take_while]
  unfold M5.valueAt
  rw [drop_while, ← h2, drop_cons s I2 h]
  dsimp only
  rw [if_neg hq]
  rfl
def AttPost (p : Att × List UInt8 × Bool) (n : Nat) (w : World) (e : Ending) (w' : World) : Prop := e = .returned (.tuple #[.agg #[.string p.1.name, .string p.1.value], .int .i64 ((n - p.2.1.length : Nat) : Int), .bool p.2.2]) ∧ Below w.heap.size w w'
theorem attPost_mk {l : List UInt8} {a : Att} {k : Nat} {ok : Bool} {p : Att × List UInt8 × Bool} {w w' : World} {e : Ending} (hp : p = (a, l.drop k, ok)) (hk : k ≤ l.length) (he : e = .returned (.tuple #[.agg #[.string a.name, .string a.value], .int .i64 (k : Int), .bool ok])) (hb : Below w.heap.size w w') : AttPost p l.length w e w' := by
  subst hp he
  refine ⟨?_, hb⟩
  rw [show (l.drop k).length = l.length - k from List.length_drop, show l.length - (l.length - k) = k by omega]
theorem Box.two {W : World} {g : Nat} {t : TypeId} {z0 z1 : Value} (h : Box W g t [z0, z1]) (c0 c1 : Value) : Box ((W.setCell ⟨g, 0, none⟩ c0).setCell ⟨g, 1, none⟩ c1) g t [c0, c1] := by
  have := (h.set 0 c0).set 1 c1
  simpa only [List.set_cons_succ, List.set_cons_zero] using this
theorem two_below {B : Nat} {a W : World} (h : Below B a W) {g : Nat} (c0 c1 : Value) (hg : B ≤ g) : Below B a ((W.setCell ⟨g, 0, none⟩ c0).setCell ⟨g, 1, none⟩ c1) :=
  (h.setCell (p := ⟨g, 0, none⟩) hg c0).setCell (p := ⟨g, 1, none⟩) hg c1
set_option maxHeartbeats 8000000 in
set_option maxRecDepth 100000 in
theorem ref05attribute (s : ByteArray) (at_ : Nat) (w : World) (hs : s.size ≤ 1073741824) (ha : at_ ≤ s.size) :
    Calls Tryz.prog 101 #[.string s, .int .i64 (at_ : Int)] w (AttPost (M5.attrAt (s.data.toList.drop at_)) s.size w) := by
  obtain ⟨E, hE⟩ : ∃ E, Hid (E = at_ + M5.spanN npB (s.data.toList.drop at_)) := ⟨_, rfl⟩
  have hEs : E ≤ s.size := by rw [hE.out]; exact span_bound _ s at_ ha
  have hEa : at_ ≤ E := by rw [hE.out]; omega
  obtain ⟨I1, h1⟩ : ∃ I, Hid (I = E + M5.spanN M5.blankB (s.data.toList.drop E)) := ⟨_, rfl⟩
  have h1s : I1 ≤ s.size := by rw [h1.out]; exact span_bound _ s E hEs
  have hbl := Lib.hid (fun (i : Nat) (h : i < s.size) (w : World) => ref05blank s[i] w)
  go_enter Tryz.func101, Tryz.ntmps101
  go_upto_block 0 with fail
  go_cut [7] (fun s7 wx => s7 = .int .i64 (E : Int) ∧ w.alloc (.cells #[.string ⟨#[]⟩, .string ⟨#[]⟩] 43) = wx)
  case first =>
    go_wp2_with fail
    go_loop [7] (fun u7 => ∃ i : Nat, i ≤ s.size ∧ u7 = .int .i64 (i : Int) ∧ Hid (E = i + M5.spanN npB (s.data.toList.drop i))) (fun u7 => s.size - (intOf u7).toNat)
    case atStart => exact ⟨at_, ha, rfl, hE⟩
    case round =>
      obtain ⟨i, hi, rfl, hv⟩ := hrel
      by_cases hil : i < s.size
      · have hB := Lib.hid (fun w => hbl.out i hil w)
        have hst := span_step npB s i hil
        have hnp : npB s[i] = !(M5.blankB s[i] || ((s[i].toNat : Int) == 47) || ((s[i].toNat : Int) == 62) || ((s[i].toNat : Int) == 61)) := by
          rw [show ((s[i].toNat : Int) == 47) = (s[i] == 47) from (eqI _ 47).symm, show ((s[i].toNat : Int) == 62) = (s[i] == 62) from (eqI _ 62).symm, show ((s[i].toNat : Int) == 61) = (s[i] == 61) from (eqI _ 61).symm]
          rfl
        rw [hnp] at hst
        clear hnp
        generalize M5.blankB s[i] = bl at *
        cases bl
        · cases h47 : ((s[i].toNat : Int) == 47)
          · have n47 : ((s[i].toNat : Int) != 47) = true := by rw [bne, h47]; rfl
            cases h62 : ((s[i].toNat : Int) == 62)
            · have n62 : ((s[i].toNat : Int) != 62) = true := by rw [bne, h62]; rfl
              cases h61 : ((s[i].toNat : Int) == 61)
              · have n61 : ((s[i].toNat : Int) != 61) = true := by rw [bne, h61]; rfl
                have hv2 : Hid (E = i + 1 + M5.spanN npB (s.data.toList.drop (i + 1))) := by
                  show _ = _
                  rw [h47, h62, h61] at hst
                  have hst1 : M5.spanN npB (s.data.toList.drop i) = M5.spanN npB (s.data.toList.drop (i + 1)) + 1 := by rw [hst]; rfl
                  rw [hv.out, hst1]; omega
                clear hst
                go_wp2_with (go_at_call 91; refine (hB.out _).mono ?_; rintro e1 w1 ⟨rfl, rfl⟩)
                go_round
                case rel => exact ⟨i + 1, by omega, by go_num, hv2⟩
                case measure => exact rf_meas hil
              · have n61 : ((s[i].toNat : Int) != 61) = false := by rw [bne, h61]; rfl
                have hst0 : M5.spanN npB (s.data.toList.drop i) = 0 := by rw [hst]; simp [h47, h62, h61]
                obtain rfl : E = i := by rw [hv.out, hst0]; rfl
                clear hst hst0 hv
                go_wp2_with (go_at_call 91; refine (hB.out _).mono ?_; rintro e1 w1 ⟨rfl, rfl⟩)
                go_meet
                case rel => exact ⟨rfl, rfl⟩
            · have n62 : ((s[i].toNat : Int) != 62) = false := by rw [bne, h62]; rfl
              have hst0 : M5.spanN npB (s.data.toList.drop i) = 0 := by rw [hst]; simp [h47, h62]
              obtain rfl : E = i := by rw [hv.out, hst0]; rfl
              clear hst hst0 hv
              go_wp2_with (go_at_call 91; refine (hB.out _).mono ?_; rintro e1 w1 ⟨rfl, rfl⟩)
              go_meet
              case rel => exact ⟨rfl, rfl⟩
          · have n47 : ((s[i].toNat : Int) != 47) = false := by rw [bne, h47]; rfl
            have hst0 : M5.spanN npB (s.data.toList.drop i) = 0 := by rw [hst]; simp [h47]
            obtain rfl : E = i := by rw [hv.out, hst0]; rfl
            clear hst hst0 hv
            go_wp2_with (go_at_call 91; refine (hB.out _).mono ?_; rintro e1 w1 ⟨rfl, rfl⟩)
            go_meet
            case rel => exact ⟨rfl, rfl⟩
        · have hst0 : M5.spanN npB (s.data.toList.drop i) = 0 := by rw [hst]; simp
          obtain rfl : E = i := by rw [hv.out, hst0]; rfl
          clear hst hst0 hv
          go_wp2_with (go_at_call 91; refine (hB.out _).mono ?_; rintro e1 w1 ⟨rfl, rfl⟩)
          go_meet
          case rel => exact ⟨rfl, rfl⟩
      · obtain rfl : i = s.size := by omega
        obtain rfl : E = s.size := by rw [hv.out, span_end _ s _ (Nat.le_refl _)]; rfl
        clear hv
        go_wp2_with fail
        go_meet
        case rel => exact ⟨rfl, rfl⟩
  case rest =>
    obtain ⟨rfl, rfl⟩ := hcut
    have hfx : Hid ((s.extract at_ E).data.toList = (s.data.toList.drop at_).take (E - at_)) := by show _ = _; rw [Lib.extract_data]
    go_upto_block 2 with (go_at_call 90; refine (ref01Fold (s.extract at_ E) _ (by rw [ByteArray.size_extract]; omega)).mono ?_; rintro e1 w1 ⟨rfl, hb1⟩)
    have b0 : Below w.heap.size w (w.alloc (.cells #[.string ⟨#[]⟩, .string ⟨#[]⟩] 43)) := (Below.refl _ _).alloc (Nat.le_refl _) _
    have bx0 := (Box.new w 43 [.string ⟨#[]⟩, .string ⟨#[]⟩]).below hb1 (by simp)
    have hz1 := hb1.size
    simp only [World.size_alloc] at hz1
    have hbw1 : Below w.heap.size w w1 := b0.trans (hb1.mono (by simp))
    have hnm : Hid ((⟨(M1.fold ((s.data.toList.drop at_).take (E - at_))).toArray⟩ : ByteArray) = M5.bs (M1.fold ((s.data.toList.drop at_).take (E - at_)))) := rfl
    generalize (⟨(M1.fold ((s.data.toList.drop at_).take (E - at_))).toArray⟩ : ByteArray) = nm at *
    have bxr : Box (w1.alloc (.cells #[.string nm, .string ⟨#[]⟩] 43)) w.heap.size 43 [.string ⟨#[]⟩, .string ⟨#[]⟩] := bx0.alloc _
    have bxa : Box (w1.alloc (.cells #[.string nm, .string ⟨#[]⟩] 43)) w1.heap.size 43 [.string nm, .string ⟨#[]⟩] := Box.new w1 43 [.string nm, .string ⟨#[]⟩]
    have hbW : Below w.heap.size w (w1.alloc (.cells #[.string nm, .string ⟨#[]⟩] 43)) := hbw1.alloc (by omega) _
    clear b0 bx0 hb1
    replace bxr := Lib.hid bxr
    replace bxa := Lib.hid bxa
    replace hbW := Lib.hid hbW
    go_cut [9] (fun s9 wx => s9 = .int .i64 (I1 : Int) ∧ w1.alloc (.cells #[.string nm, .string ⟨#[]⟩] 43) = wx)
    case first =>
      go_wp2_with fail
      go_loop [9] (fun u => ∃ i : Nat, i ≤ s.size ∧ u = .int .i64 (i : Int) ∧ Hid (I1 = i + M5.spanN M5.blankB (s.data.toList.drop i))) (fun u => s.size - (intOf u).toNat)
      case atStart => exact ⟨E, hEs, rfl, h1⟩
      case round =>
        obtain ⟨i, hi, rfl, hv⟩ := hrel
        by_cases hil : i < s.size
        · have hB := Lib.hid (fun w => hbl.out i hil w)
          have hst := span_step M5.blankB s i hil
          generalize M5.blankB s[i] = bl at *
          cases bl
          · have hst0 : M5.spanN M5.blankB (s.data.toList.drop i) = 0 := by rw [hst]; rfl
            have hK : I1 = i := by rw [hv.out, hst0]; rfl
            subst hK
            clear hst hst0 hv
            go_wp2_with (go_at_call 91; refine (hB.out _).mono ?_; rintro e1 w1 ⟨rfl, rfl⟩)
            go_meet
            case rel => exact ⟨rfl, rfl⟩
          · have hv2 : Hid (I1 = i + 1 + M5.spanN M5.blankB (s.data.toList.drop (i + 1))) := by
              show _ = _
              have hst1 : M5.spanN M5.blankB (s.data.toList.drop i) = M5.spanN M5.blankB (s.data.toList.drop (i + 1)) + 1 := by rw [hst]; rfl
              rw [hv.out, hst1]; omega
            clear hst
            go_wp2_with (go_at_call 91; refine (hB.out _).mono ?_; rintro e1 w1 ⟨rfl, rfl⟩)
            go_round
            case rel => exact ⟨i + 1, by omega, by go_num, hv2⟩
            case measure => exact rf_meas hil
        · obtain rfl : i = s.size := by omega
          have hK : I1 = s.size := by rw [hv.out, span_end _ s _ (Nat.le_refl _)]; rfl
          subst hK
          clear hv
          go_wp2_with fail
          go_meet
          case rel => exact ⟨rfl, rfl⟩
    case rest =>
      obtain ⟨rfl, rfl⟩ := hcut
      by_cases hI1 : ∀ h : I1 < s.size, s[I1] ≠ 61
      · have hres := Lib.hid (attr_bare s at_ E I1 hE.out h1.out h1s hI1)
        have a0 := bxa.out.cell (i := 0) rfl
        have a1 := bxa.out.cell (i := 1) rfl
        have r0 := bxr.out.cell (i := 0) rfl
        have r1 := bxr.out.cell (i := 1) rfl
        have f0 := bxr.out.free 0
        have f1 := bxr.out.free 1
        have bxf := Lib.hid (bxr.out.two (.string nm) (.string ⟨#[]⟩))
        have hbf := Lib.hid (two_below hbW.out (g := w.heap.size) (.string nm) (.string ⟨#[]⟩) (Nat.le_refl _))
        have htest : (decide (s.size ≤ I1) = true) ∨ (decide (s.size ≤ I1) = false ∧ I1 < s.size) := by
          by_cases h : s.size ≤ I1
          · exact .inl (decide_eq_true h)
          · exact .inr ⟨decide_eq_false h, by omega⟩
        rcases htest with htest | ⟨htest, hlt⟩
        · go_wp2_with fail
          have t0 := bxf.out.cell (i := 0) rfl
          have t1 := bxf.out.cell (i := 1) rfl
          exact bodyPost_ret (v := .tuple #[.agg #[.string nm, .string ⟨#[]⟩], .int .i64 (I1 : Int), .bool true]) (by simp [results, Tryz.results101, go_sem, t0, t1]) rfl (attPost_mk (a := ⟨nm, ⟨#[]⟩⟩) (k := I1) (by rw [hres.out, ← hnm.out]) h1s rfl hbf.out)
        · have hne : ((s[I1].toNat : Int) != 61) = true := by rw [show ((s[I1].toNat : Int) != 61) = !(s[I1] == 61) from eqN _ 61]; simp [hI1 hlt]
          go_wp2_with fail
          have t0 := bxf.out.cell (i := 0) rfl
          have t1 := bxf.out.cell (i := 1) rfl
          exact bodyPost_ret (v := .tuple #[.agg #[.string nm, .string ⟨#[]⟩], .int .i64 (I1 : Int), .bool true]) (by simp [results, Tryz.results101, go_sem, t0, t1]) rfl (attPost_mk (a := ⟨nm, ⟨#[]⟩⟩) (k := I1) (by rw [hres.out, ← hnm.out]) h1s rfl hbf.out)
      · have hlt : I1 < s.size := by
          rcases Nat.lt_or_ge I1 s.size with h | h
          · exact h
          · exact absurd (fun h2 => absurd h2 (Nat.not_lt.2 h)) hI1
        have h61 : s[I1] = 61 := by
          by_cases h : s[I1] = 61
          · exact h
          · exact absurd (fun _ => h) hI1
        clear hI1
        have heq := Lib.hid (attr_eq s at_ E I1 hE.out h1.out hlt h61)
        have hne : ((s[I1].toNat : Int) != 61) = false := by rw [h61]; rfl
        have htest : decide (s.size ≤ I1) = false := decide_eq_false (by omega)
        obtain ⟨I2, h2⟩ : ∃ I, Hid (I = I1 + 1 + M5.spanN M5.blankB (s.data.toList.drop (I1 + 1))) := ⟨_, rfl⟩
        have h2s : I2 ≤ s.size := by rw [h2.out]; exact span_bound _ s (I1 + 1) (by omega)
        replace h61 := Lib.hid h61
        go_upto_block 4 with fail
        go_cut [9] (fun s9 wx => s9 = .int .i64 (I2 : Int) ∧ w1.alloc (.cells #[.string nm, .string ⟨#[]⟩] 43) = wx)
        case first =>
          go_wp2_with fail
          go_loop [9] (fun u => ∃ i : Nat, i ≤ s.size ∧ u = .int .i64 (i : Int) ∧ Hid (I2 = i + M5.spanN M5.blankB (s.data.toList.drop i))) (fun u => s.size - (intOf u).toNat)
          case atStart => exact ⟨I1 + 1, by omega, by go_num, h2⟩
          case round =>
            obtain ⟨i, hi, rfl, hv⟩ := hrel
            by_cases hil : i < s.size
            · have hB := Lib.hid (fun w => hbl.out i hil w)
              have hst := span_step M5.blankB s i hil
              generalize M5.blankB s[i] = bl at *
              cases bl
              · have hst0 : M5.spanN M5.blankB (s.data.toList.drop i) = 0 := by rw [hst]; rfl
                have hK : I2 = i := by rw [hv.out, hst0]; rfl
                subst hK
                clear hst hst0 hv
                go_wp2_with (go_at_call 91; refine (hB.out _).mono ?_; rintro e1 w1 ⟨rfl, rfl⟩)
                go_meet
                case rel => exact ⟨rfl, rfl⟩
              · have hv2 : Hid (I2 = i + 1 + M5.spanN M5.blankB (s.data.toList.drop (i + 1))) := by
                  show _ = _
                  have hst1 : M5.spanN M5.blankB (s.data.toList.drop i) = M5.spanN M5.blankB (s.data.toList.drop (i + 1)) + 1 := by rw [hst]; rfl
                  rw [hv.out, hst1]; omega
                clear hst
                go_wp2_with (go_at_call 91; refine (hB.out _).mono ?_; rintro e1 w1 ⟨rfl, rfl⟩)
                go_round
                case rel => exact ⟨i + 1, by omega, by go_num, hv2⟩
                case measure => exact rf_meas hil
            · obtain rfl : i = s.size := by omega
              have hK : I2 = s.size := by rw [hv.out, span_end _ s _ (Nat.le_refl _)]; rfl
              subst hK
              clear hv
              go_wp2_with fail
              go_meet
              case rel => exact ⟨rfl, rfl⟩
        case rest =>
          obtain ⟨rfl, rfl⟩ := hcut
          clear hne htest
          by_cases hq : ∃ h : I2 < s.size, (s[I2] = 34 ∨ s[I2] = 39)
          · obtain ⟨hlt2, hq⟩ := hq
            have hval := Lib.hid (value_quote s (M5.bs (M1.fold ((s.data.toList.drop at_).take (E - at_)))) (I1 + 1) I2 h2.out hlt2 hq)
            have hxq : (s.extract I2 (I2 + 1)).data.toList = [s[I2]] := by
              rw [Lib.extract_data, drop_cons s I2 hlt2, show I2 + 1 - I2 = 1 by omega]
              rfl
            have hF := Lib.hid (show Calls Tryz.prog 88 #[.string s, .int .i64 ((I2 : Int) + 1), .string (s.extract I2 (I2 + 1))] (w1.alloc (.cells #[.string nm, .string ⟨#[]⟩] 43)) (PosPost (I2 + 1 + M5.findL [s[I2]] (s.data.toList.drop (I2 + 1))) (w1.alloc (.cells #[.string nm, .string ⟨#[]⟩] 43))) from by
              have := ref05find s (s.extract I2 (I2 + 1)) (I2 + 1) (w1.alloc (.cells #[.string nm, .string ⟨#[]⟩] 43)) hs (by rw [ByteArray.size_extract]; omega) (by rw [ByteArray.size_extract]; omega) (by omega)
              rw [hxq] at this
              exact this)
            have hfl := M5.findL_le [s[I2]] (s.data.toList.drop (I2 + 1))
            have hll : (s.data.toList.drop (I2 + 1)).length = s.size - (I2 + 1) := by rw [List.length_drop]; rfl
            rw [hll] at hfl
            have hv2 : Hid (M5.valueAt (M5.bs (M1.fold ((s.data.toList.drop at_).take (E - at_)))) (s.data.toList.drop (I1 + 1)) = if M5.findL [s[I2]] (s.data.toList.drop (I2 + 1)) < s.size - (I2 + 1) then (⟨M5.bs (M1.fold ((s.data.toList.drop at_).take (E - at_))), M5.bs (M2.decode ((s.data.toList.drop (I2 + 1)).take (M5.findL [s[I2]] (s.data.toList.drop (I2 + 1)))))⟩, s.data.toList.drop (I2 + 1 + M5.findL [s[I2]] (s.data.toList.drop (I2 + 1)) + 1), true) else (⟨M5.bs (M1.fold ((s.data.toList.drop at_).take (E - at_))), ⟨#[]⟩⟩, [], false)) := by
              show _ = _
              rw [hval.out, hll, List.drop_drop]
              rw [show I2 + 1 + (M5.findL [s[I2]] (s.data.toList.drop (I2 + 1)) + 1) = I2 + 1 + M5.findL [s[I2]] (s.data.toList.drop (I2 + 1)) + 1 by omega]
            clear hval hll
            obtain ⟨L, hL⟩ : ∃ L, M5.findL [s[I2]] (s.data.toList.drop (I2 + 1)) = L := ⟨_, rfl⟩
            rw [hL] at hF hv2 hfl
            have q34 : ((s[I2].toNat : Int) == 34) = (s[I2] == 34) := (eqI _ 34).symm
            have q39 : ((s[I2].toNat : Int) == 39) = (s[I2] == 39) := (eqI _ 39).symm
            have hqt : ((s[I2].toNat : Int) == 34) = true ∨ (((s[I2].toNat : Int) == 34) = false ∧ ((s[I2].toNat : Int) == 39) = true) := by
              rw [q34, q39]
              by_cases h : s[I2] = 34
              · exact .inl (by simp [h])
              · exact .inr ⟨by simp [h], by rcases hq with h' | h'; exact absurd h' h; simp [h']⟩
            replace hL := Lib.hid hL
            replace hq := Lib.hid hq
            replace hxq := Lib.hid hxq
            clear q34 q39
            rcases hqt with hqt | ⟨hqt, hqt2⟩
            all_goals
              go_wp2_with fail
              refine hF.out.mono ?_
              rintro e1 w' ⟨rfl, rfl⟩
              clear hF
              by_cases hf : L < s.size - (I2 + 1)
              · rw [if_pos hf] at hv2
                have hd : decide (s.size ≤ I2 + 1 + L) = false := decide_eq_false (by omega)
                go_wp2_with fail
                have hsx : (s.extract (I2 + 1) (I2 + 1 + L)).size ≤ 1073741824 := by rw [ByteArray.size_extract]; omega
                refine (ref02Decode _ _ hsx).mono ?_
                rintro e1 w2 ⟨rfl, hb2⟩
                have bxr2 := Lib.hid (bxr.out.below hb2 (by simp; omega))
                have bxa2 := Lib.hid (bxa.out.below hb2 (by simp))
                have hbW2 := Lib.hid (bt hbW.out hb2)
                have hz2 := hb2.size
                simp only [World.size_alloc] at hz2
                have hdv : Hid ((⟨(M2.decode ((s.data.toList.drop (I2 + 1)).take (I2 + 1 + L - (I2 + 1)))).toArray⟩ : ByteArray) = M5.bs (M2.decode ((s.data.toList.drop (I2 + 1)).take (I2 + 1 + L - (I2 + 1))))) := rfl
                rw [show (s.extract (I2 + 1) (I2 + 1 + L)).data.toList = (s.data.toList.drop (I2 + 1)).take (I2 + 1 + L - (I2 + 1)) from Lib.extract_data _ _ _]
                generalize (⟨(M2.decode ((s.data.toList.drop (I2 + 1)).take (I2 + 1 + L - (I2 + 1)))).toArray⟩ : ByteArray) = vv at *
                have bxv := bxa2.out.set 1 (.string vv)
                simp only [List.set_cons_succ, List.set_cons_zero] at bxv
                have v0 := bxv.cell (i := 0) rfl
                have v1 := bxv.cell (i := 1) rfl
                have bxr3 := bxr2.out.far (p := ⟨w1.heap.size, 1, none⟩) (by simp; omega) (.string vv)
                have r0 := bxr3.cell (i := 0) rfl
                have r1 := bxr3.cell (i := 1) rfl
                have f0 := bxr3.free 0
                have f1 := bxr3.free 1
                have k1 := bxa2.out.cell (i := 1) rfl
                have kf := bxa2.out.free 1
                have bxf := Lib.hid (bxr3.two (.string nm) (.string vv))
                have hbf := Lib.hid (two_below (hbW2.out.setCell (p := ⟨w1.heap.size, 1, none⟩) (by show w.heap.size ≤ w1.heap.size; omega) (.string vv)) (g := w.heap.size) (.string nm) (.string vv) (Nat.le_refl _))
                clear hb2 hsx
                go_wp2_with fail
                have t0 := bxf.out.cell (i := 0) rfl
                have t1 := bxf.out.cell (i := 1) rfl
                exact bodyPost_ret (v := .tuple #[.agg #[.string nm, .string vv], .int .i64 ((I2 : Int) + 1 + (L : Int) + 1), .bool true]) (by simp [results, Tryz.results101, go_sem, t0, t1]) rfl (attPost_mk (a := ⟨nm, vv⟩) (k := I2 + 1 + L + 1) (by rw [heq.out, hv2.out, ← hnm.out, hdv.out, Nat.add_sub_cancel_left]) (show I2 + 1 + L + 1 ≤ s.size by omega) rfl hbf.out)
              · rw [if_neg hf] at hv2
                have hd : decide (s.size ≤ I2 + 1 + L) = true := decide_eq_true (by omega)
                have a0 := bxa.out.cell (i := 0) rfl
                have a1 := bxa.out.cell (i := 1) rfl
                have r0 := bxr.out.cell (i := 0) rfl
                have r1 := bxr.out.cell (i := 1) rfl
                have f0 := bxr.out.free 0
                have f1 := bxr.out.free 1
                have bxf := Lib.hid (bxr.out.two (.string nm) (.string ⟨#[]⟩))
                have hbf := Lib.hid (two_below hbW.out (g := w.heap.size) (.string nm) (.string ⟨#[]⟩) (Nat.le_refl _))
                go_wp2_with fail
                have t0 := bxf.out.cell (i := 0) rfl
                have t1 := bxf.out.cell (i := 1) rfl
                exact bodyPost_ret (v := .tuple #[.agg #[.string nm, .string ⟨#[]⟩], .int .i64 (s.size : Int), .bool false]) (by simp [results, Tryz.results101, go_sem, t0, t1]) rfl (attPost_mk (a := ⟨nm, ⟨#[]⟩⟩) (k := s.size) (by rw [heq.out, hv2.out, ← hnm.out, drop_end s s.size (Nat.le_refl _)]) (Nat.le_refl _) rfl hbf.out)
          · obtain ⟨V, hV⟩ : ∃ V, Hid (V = I2 + M5.spanN nvB (s.data.toList.drop I2)) := ⟨_, rfl⟩
            have hVs : V ≤ s.size := by rw [hV.out]; exact span_bound _ s I2 h2s
            have hVa : I2 ≤ V := by rw [hV.out]; omega
            have hv2 : Hid (M5.valueAt (M5.bs (M1.fold ((s.data.toList.drop at_).take (E - at_)))) (s.data.toList.drop (I1 + 1)) = (⟨M5.bs (M1.fold ((s.data.toList.drop at_).take (E - at_))), M5.bs (M2.decode ((s.data.toList.drop I2).take (V - I2)))⟩, s.data.toList.drop V, true)) := by
              show _ = _
              by_cases hlt2 : I2 < s.size
              · rw [value_bare s _ (I1 + 1) I2 h2.out hlt2 (fun h => hq ⟨hlt2, h⟩), ← hV.out, show V - I2 = M5.spanN nvB (s.data.toList.drop I2) by have := hV.out; omega]
              · have e1 : I2 = s.size := by omega
                have e2 : V = s.size := by omega
                rw [value_end s _ (I1 + 1) I2 h2.out (by omega), e1, e2, drop_end s s.size (Nat.le_refl _)]
                rw [List.take_nil]
            have hqt : (decide (I2 < s.size) = false) ∨ (∃ h : I2 < s.size, decide (I2 < s.size) = true ∧ ((s[I2].toNat : Int) == 34) = false ∧ ((s[I2].toNat : Int) == 39) = false) := by
              by_cases hlt2 : I2 < s.size
              · refine .inr ⟨hlt2, decide_eq_true hlt2, ?_, ?_⟩
                · rw [show ((s[I2].toNat : Int) == 34) = (s[I2] == 34) from (eqI _ 34).symm]
                  have : s[I2] ≠ 34 := fun h => hq ⟨hlt2, .inl h⟩
                  simp [this]
                · rw [show ((s[I2].toNat : Int) == 39) = (s[I2] == 39) from (eqI _ 39).symm]
                  have : s[I2] ≠ 39 := fun h => hq ⟨hlt2, .inr h⟩
                  simp [this]
              · exact .inl (decide_eq_false hlt2)
            clear hq
            rcases hqt with hqt | ⟨hlt2, hqt, hq34, hq39⟩
            all_goals
              go_upto_block 6 with fail
              go_cut [11] (fun s11 wx => s11 = .int .i64 (V : Int) ∧ w1.alloc (.cells #[.string nm, .string ⟨#[]⟩] 43) = wx)
              case first =>
                go_wp2_with fail
                go_loop [11] (fun u => ∃ i : Nat, i ≤ s.size ∧ u = .int .i64 (i : Int) ∧ Hid (V = i + M5.spanN nvB (s.data.toList.drop i))) (fun u => s.size - (intOf u).toNat)
                case atStart => exact ⟨I2, h2s, rfl, hV⟩
                case round =>
                  obtain ⟨i, hi, rfl, hv⟩ := hrel
                  by_cases hil : i < s.size
                  · have hB := Lib.hid (fun w => hbl.out i hil w)
                    have hst := span_step nvB s i hil
                    have hnp : nvB s[i] = (!M5.blankB s[i] && !((s[i].toNat : Int) == 62)) := by
                      rw [show ((s[i].toNat : Int) == 62) = (s[i] == 62) from (eqI _ 62).symm]
                      rfl
                    rw [hnp] at hst
                    clear hnp
                    generalize M5.blankB s[i] = bl at *
                    cases bl
                    · cases h62 : ((s[i].toNat : Int) == 62)
                      · have n62 : ((s[i].toNat : Int) != 62) = true := by rw [bne, h62]; rfl
                        have hv3 : Hid (V = i + 1 + M5.spanN nvB (s.data.toList.drop (i + 1))) := by
                          show _ = _
                          rw [h62] at hst
                          have hst1 : M5.spanN nvB (s.data.toList.drop i) = M5.spanN nvB (s.data.toList.drop (i + 1)) + 1 := by rw [hst]; rfl
                          rw [hv.out, hst1]; omega
                        clear hst
                        go_wp2_with (go_at_call 91; refine (hB.out _).mono ?_; rintro e1 w1 ⟨rfl, rfl⟩)
                        go_round
                        case rel => exact ⟨i + 1, by omega, by go_num, hv3⟩
                        case measure => exact rf_meas hil
                      · have n62 : ((s[i].toNat : Int) != 62) = false := by rw [bne, h62]; rfl
                        have hst0 : M5.spanN nvB (s.data.toList.drop i) = 0 := by rw [hst]; simp [h62]
                        have hK : V = i := by rw [hv.out, hst0]; rfl
                        subst hK
                        clear hst hst0 hv
                        go_wp2_with (go_at_call 91; refine (hB.out _).mono ?_; rintro e1 w1 ⟨rfl, rfl⟩)
                        go_meet
                        case rel => exact ⟨rfl, rfl⟩
                    · have hst0 : M5.spanN nvB (s.data.toList.drop i) = 0 := by rw [hst]; simp
                      have hK : V = i := by rw [hv.out, hst0]; rfl
                      subst hK
                      clear hst hst0 hv
                      go_wp2_with (go_at_call 91; refine (hB.out _).mono ?_; rintro e1 w1 ⟨rfl, rfl⟩)
                      go_meet
                      case rel => exact ⟨rfl, rfl⟩
                  · obtain rfl : i = s.size := by omega
                    have hK : V = s.size := by rw [hv.out, span_end _ s _ (Nat.le_refl _)]; rfl
                    subst hK
                    clear hv
                    go_wp2_with fail
                    go_meet
                    case rel => exact ⟨rfl, rfl⟩
              case rest =>
                obtain ⟨rfl, rfl⟩ := hcut
                go_wp2_with fail
                have hsx : (s.extract (I2) (V)).size ≤ 1073741824 := by rw [ByteArray.size_extract]; omega
                refine (ref02Decode _ _ hsx).mono ?_
                rintro e1 w2 ⟨rfl, hb2⟩
                have bxr2 := Lib.hid (bxr.out.below hb2 (by simp; omega))
                have bxa2 := Lib.hid (bxa.out.below hb2 (by simp))
                have hbW2 := Lib.hid (bt hbW.out hb2)
                have hz2 := hb2.size
                simp only [World.size_alloc] at hz2
                have hdv : Hid ((⟨(M2.decode ((s.data.toList.drop (I2)).take (V - (I2)))).toArray⟩ : ByteArray) = M5.bs (M2.decode ((s.data.toList.drop (I2)).take (V - (I2))))) := rfl
                rw [show (s.extract (I2) (V)).data.toList = (s.data.toList.drop (I2)).take (V - (I2)) from Lib.extract_data _ _ _]
                generalize (⟨(M2.decode ((s.data.toList.drop (I2)).take (V - (I2)))).toArray⟩ : ByteArray) = vv at *
                have bxv := bxa2.out.set 1 (.string vv)
                simp only [List.set_cons_succ, List.set_cons_zero] at bxv
                have v0 := bxv.cell (i := 0) rfl
                have v1 := bxv.cell (i := 1) rfl
                have bxr3 := bxr2.out.far (p := ⟨w1.heap.size, 1, none⟩) (by simp; omega) (.string vv)
                have r0 := bxr3.cell (i := 0) rfl
                have r1 := bxr3.cell (i := 1) rfl
                have f0 := bxr3.free 0
                have f1 := bxr3.free 1
                have k1 := bxa2.out.cell (i := 1) rfl
                have kf := bxa2.out.free 1
                have bxf := Lib.hid (bxr3.two (.string nm) (.string vv))
                have hbf := Lib.hid (two_below (hbW2.out.setCell (p := ⟨w1.heap.size, 1, none⟩) (by show w.heap.size ≤ w1.heap.size; omega) (.string vv)) (g := w.heap.size) (.string nm) (.string vv) (Nat.le_refl _))
                clear hb2 hsx
                go_wp2_with fail
                have t0 := bxf.out.cell (i := 0) rfl
                have t1 := bxf.out.cell (i := 1) rfl
                exact bodyPost_ret (v := .tuple #[.agg #[.string nm, .string vv], .int .i64 (V : Int), .bool true]) (by simp [results, Tryz.results101, go_sem, t0, t1]) rfl (attPost_mk (a := ⟨nm, vv⟩) (k := V) (by rw [heq.out, hv2.out, ← hnm.out, hdv.out]) hVs rfl hbf.out)
end Go.Proofs.YteefodibpjgicaaGreat

namespace Go.Proofs.YteefodibpjgicaaGreat
open Go.RowKit
def UptoPost (p : List UInt8 × List UInt8) (n : Nat) (w : World) (e : Ending) (w' : World) : Prop := e = .returned (.tuple #[.string (M5.bs p.1), .int .i64 ((n - p.2.length : Nat) : Int)]) ∧ w = w'
theorem uptoPost_mk {l x : List UInt8} {k : Nat} {p : List UInt8 × List UInt8} {w w' : World} {e : Ending} {t : ByteArray} (hp : p = (x, l.drop k)) (hk : k ≤ l.length) (he : e = .returned (.tuple #[.string t, .int .i64 (k : Int)])) (ht : t = M5.bs x) (hb : w = w') : UptoPost p l.length w e w' := by
  subst hp he ht
  refine ⟨?_, hb⟩
  rw [show (l.drop k).length = l.length - k from List.length_drop, show l.length - (l.length - k) = k by omega]
theorem bs_cut (s : ByteArray) (a b : Nat) : s.extract a b = M5.bs ((s.data.toList.drop a).take (b - a)) := by
  apply ByteArray.ext
  apply Array.ext'
  rw [Lib.extract_data, M5.bs_data]
theorem find_fits (wd l : List UInt8) (hw : 0 < wd.length) (h : M5.findL wd l < l.length) : M5.findL wd l + wd.length ≤ l.length := by
  induction l with
  | nil => simp at h
  | cons c r ih =>
    by_cases he : (c :: r).take wd.length = wd
    · by_cases hl : wd.length ≤ (c :: r).length
      · rw [find_yes _ _ he hw hl]; omega
      · rw [find_short _ _ (by omega)] at h; omega
    · rw [find_no _ _ _ he] at h ⊢
      simp only [List.length_cons] at h ⊢
      have := ih (by omega)
      omega
set_option maxHeartbeats 2000000 in
set_option maxRecDepth 100000 in
theorem ref05upto (s wd : ByteArray) (at_ : Nat) (w : World) (hs : s.size ≤ 1073741824) (hw1 : 0 < wd.size) (hw2 : wd.size ≤ 1073741824) (ha : at_ ≤ s.size) :
    Calls Tryz.prog 87 #[.string s, .int .i64 (at_ : Int), .string wd] w (UptoPost (M5.uptoR wd.data.toList (s.data.toList.drop at_)) s.data.toList.length w) := by
  have hwl : wd.data.toList.length = wd.size := rfl
  have hsl : s.data.toList.length = s.size := rfl
  have hdl : (s.data.toList.drop at_).length = s.size - at_ := List.length_drop
  obtain ⟨E, hE⟩ : ∃ E, Hid (E = at_ + M5.findL wd.data.toList (s.data.toList.drop at_)) := ⟨_, rfl⟩
  have hEs : E ≤ s.size := by rw [hE.out]; have := M5.findL_le wd.data.toList (s.data.toList.drop at_); omega
  have hEa : at_ ≤ E := by rw [hE.out]; omega
  have hf := Lib.hid (fun w => ref05find s wd at_ w hs hw1 hw2 ha)
  by_cases hlt : E < s.size
  · have hlt' : M5.findL wd.data.toList (s.data.toList.drop at_) < (s.data.toList.drop at_).length := by have := hE.out; omega
    have hfit : E + wd.size ≤ s.size := by have := find_fits _ _ (by omega) hlt'; have := hE.out; omega
    have hp : Hid (M5.uptoR wd.data.toList (s.data.toList.drop at_) = ((s.data.toList.drop at_).take (E - at_), s.data.toList.drop (E + wd.size))) := by
      show _ = _
      rw [M5.uptoR, if_pos hlt', List.drop_drop, show M5.findL wd.data.toList (s.data.toList.drop at_) = E - at_ by have := hE.out; omega, hwl]
      congr 2
      omega
    replace hlt' := Lib.hid hlt'
    replace hdl := Lib.hid hdl
    replace hsl := Lib.hid hsl
    go_enter Tryz.func87, Tryz.ntmps87
    go_wp2_with (go_at_call 88; refine (hf.out _).mono ?_; rintro e1 w1 ⟨rfl, rfl⟩; rw [← hE.out])
    go_ret2
    exact uptoPost_mk hp.out hfit rfl (bs_cut s at_ E) rfl
  · have hEE : E = s.size := by omega
    have hp : Hid (M5.uptoR wd.data.toList (s.data.toList.drop at_) = (s.data.toList.drop at_, s.data.toList.drop s.size)) := by
      show _ = _
      rw [M5.uptoR, if_neg (by have := hE.out; omega), drop_end s s.size (Nat.le_refl _)]
    replace hdl := Lib.hid hdl
    replace hsl := Lib.hid hsl
    go_enter Tryz.func87, Tryz.ntmps87
    go_wp2_with (go_at_call 88; refine (hf.out _).mono ?_; rintro e1 w1 ⟨rfl, rfl⟩; rw [← hE.out])
    go_ret2
    exact uptoPost_mk hp.out (Nat.le_refl _) rfl (by rw [bs_cut, List.take_of_length_le (by rw [hdl.out]; exact Nat.le_refl _)]) rfl
end Go.Proofs.YteefodibpjgicaaGreat
