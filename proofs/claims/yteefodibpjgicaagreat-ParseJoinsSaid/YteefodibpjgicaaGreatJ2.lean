/- Texts joined: Ref01b, Ref01c, Strs, Kit2, Ref02, Ref02b, Ref02c, Mem, Ref05, Ref05b, Ref05e, Kmp, Math5f, Math5s, Bld0, Math3m. -/
import Derived.Lib.Bytealg
import Derived.Lib.Strings
import Derived.Shelf.Strconv.Clone
import Derived.Test.YteefodibpjgicaaGreatRows
import Derived.Deep.QuietTactic
import Derived.BigQuiet
import Derived.IntWalk
import Derived.Laws.AppendOwn
import Derived.Deep.DeepCutAuto
import Derived.Deep.CutBlock
import Derived.Lib.FrozenHead
import Derived.Shelf.RegionOpenPlain
import Derived.Lib.Builder
import Derived.Lib.UnsafeStr
import Derived.Test.YteefodibpjgicaaGreatJ1
namespace Go.Proofs.YteefodibpjgicaaGreat
open Go.RowKit
theorem info32' : (Tryz.prog.info? 21).map (fun i => (i.zero, i.size, i.bytes)) = some (some (.int .i32 0), 1, 4) := by kernel_rfl
theorem drop_ne' {l : List UInt8} {k : Nat} (h : k < l.length) : l.drop k ≠ [] := ne_of_lt (k := 0) (by rw [List.length_drop]; omega)
set_option maxHeartbeats 1000000 in
set_option maxRecDepth 100000 in
theorem ref01Runes (v : Value) (l : List UInt8) (w : World) (hs : Sl w v (u8s l)) (hl : l.length ≤ 1073741824) :
    Calls Tryz.prog 31 #[v] w fun e w' => ∃ v', e = .returned v' ∧ Sl w' v' (i32s (M1.runes l)) ∧ Below w.heap.size w w' := by
  have hs0 := hs
  obtain ⟨a, cap, rfl, h2, h3, h4, h5⟩ := hs
  rw [u8s_length] at *
  go_enter Tryz.func31, Tryz.ntmps31
  go_wp2
  go_loopw [3, 4] (fun v3 i wr => ∃ (pos : Nat) (acc : List Int), i = .int .i64 pos ∧ pos ≤ l.length ∧ wr.ownsRow w.heap.size 21 1 v3 acc.length (i32s acc) ∧ Below w.heap.size w wr ∧ Hid (M1.runes l = acc ++ M1.runes (l.drop pos)) ∧ acc.length ≤ pos) (fun _ i _ => l.length - (intOf i).toNat)
  case atStart => exact ⟨0, [], rfl, by omega, World.ownsRow_nil _ _ _ _, Below.refl _ _, rfl, by simp⟩
  case round =>
    obtain ⟨pos, acc, rfl, hpl, hown, hbw, hacc, hal⟩ := hrel
    by_cases hp : pos < l.length
    · obtain ⟨b, off, rfl, h7⟩ := h5 (ne_of_lt (k := pos) (by simpa using hp))
      have hne := drop_ne' hp
      have hd := (hs0.below hbw).drop pos (by omega)
      have hO := ref01One _ (l.drop pos) wr (by rw [show u8s (l.drop pos) = (u8s l).drop pos by simp [u8s, Lib.byteCells, List.map_drop]]; exact hd) hne
      have hst0 := M1.runes_step _ hne
      have hw1 := M1.dec_pos _ hne
      have hw2 := M1.dec_le _ hne
      have hlt := M1.dec_lt (l.drop pos)
      rw [List.drop_drop] at hst0
      rw [List.length_drop] at hw2
      generalize (M1.dec (l.drop pos)).1 = r at *
      generalize (M1.dec (l.drop pos)).2 = wd at *
      have hst := Lib.hid hst0
      have hO := Lib.hid hO
      clear hst0 h5 h7 hd hs0 h4
      go_wp2_with (first | (go_at_call 44; refine hO.out.mono ?_; rintro e w2 ⟨rfl, rfl⟩) | (at_builtin; refine wpList_app1 _ _ rfl _ _ 48 21 rfl w.heap.size Tryz.underlying48 info32' rfl _ _ _ rfl hown rfl rfl ?c1 ?c2 ?c3 ?_))
      case c1 => omega
      case c2 => omega
      case c3 => exact hbw.size
      intro v' w2 hown2 hgrow
      go_wp2
      go_roundw
      case rel =>
        refine ⟨pos + wd, acc ++ [(r : Int)], by go_num, by omega, ?_, below_row hbw hown hgrow hbw.size (Nat.le_refl _), ?_, by simp; omega⟩
        · rw [i32s_append, List.length_append]; exact hown2
        · show _ = _
          rw [hacc.out, hst.out]; simp
      case measure => simp [intOf]; omega
    · clear h5 h4 hs0
      have h := hacc.out
      rw [List.drop_of_length_le (by omega), M1.runes_nil, List.append_nil] at h
      have h := Lib.hid h
      go_wp2
      go_ret
      exact ⟨_, rfl, by rw [h.out]; exact Sl.own hown, hbw⟩
theorem Sl.fresh (w : World) (e : TypeId) (xs : List Value) (n : Nat) (hn : xs.length = n) (h : n ≤ 4) : Sl (w.alloc (.cells xs.toArray e)) (.slice (some ⟨w.heap.size, 0, none⟩) n n) xs := by
  subst hn
  refine ⟨_, xs.length, rfl, Nat.le_refl _, by omega, (fun h => by cases h), fun _ => ⟨_, 0, rfl, fun j hj => ?_⟩⟩
  rw [Nat.zero_add, World.cell?_alloc_at _ _ _ _ rfl]
  simp [hj]
set_option maxHeartbeats 2000000 in
set_option maxRecDepth 100000 in
theorem ref01Bytes (r : Int) (w : World) (h0 : -2147483648 ≤ r) (h1 : r ≤ 2147483647) :
    Calls Tryz.prog 45 #[.int .i32 r] w fun e w' => ∃ v', e = .returned v' ∧ Sl w' v' (Lib.runeCells r) ∧ Below w.heap.size w w' := by
  have hfr := fun xs n hn h => Sl.fresh w 5 xs n hn h
  have hbl := fun o => (Below.refl w.heap.size w).alloc (Nat.le_refl _) o
  have hfr := Lib.hid hfr
  have hbl := Lib.hid hbl
  by_cases c1 : 0 ≤ r ∧ r ≤ 127
  · obtain ⟨c1, c2⟩ := c1
    have e : Lib.runeCells r = [.int .u8 r] := by simp [Lib.runeCells, Lib.encodeRuneZ_one c1 c2]
    rw [e]
    clear e
    go_enter Tryz.func45, Tryz.ntmps45
    go_wp2
    go_ret
    exact ⟨_, rfl, hfr.out _ 1 rfl (by omega), hbl.out _⟩
  by_cases c2 : 128 ≤ r ∧ r ≤ 2047
  · obtain ⟨c2, c3⟩ := c2
    have e : Lib.runeCells r = [.int .u8 (192 + r / 64), .int .u8 (128 + r % 64)] := by simp [Lib.runeCells, Lib.encodeRuneZ_two c2 c3]
    rw [e]
    clear e
    go_enter Tryz.func45, Tryz.ntmps45
    go_wp2
    go_ret
    exact ⟨_, rfl, hfr.out _ 2 rfl (by omega), hbl.out _⟩
  by_cases c3 : 2048 ≤ r ∧ r < 55296
  · obtain ⟨c3, c4⟩ := c3
    have e : Lib.runeCells r = [.int .u8 (224 + r / 4096), .int .u8 (128 + r / 64 % 64), .int .u8 (128 + r % 64)] := by simp [Lib.runeCells, Lib.encodeRuneZ_three (r := r) (by omega)]
    rw [e]
    clear e
    go_enter Tryz.func45, Tryz.ntmps45
    go_wp2
    go_ret
    exact ⟨_, rfl, hfr.out _ 3 rfl (by omega), hbl.out _⟩
  by_cases c4 : 57343 < r ∧ r ≤ 65535
  · obtain ⟨c4, c5⟩ := c4
    have e : Lib.runeCells r = [.int .u8 (224 + r / 4096), .int .u8 (128 + r / 64 % 64), .int .u8 (128 + r % 64)] := by simp [Lib.runeCells, Lib.encodeRuneZ_three (r := r) (by omega)]
    have hb : decide (r ≤ 57343) = false := decide_eq_false (by omega)
    rw [e]
    clear e
    go_enter Tryz.func45, Tryz.ntmps45
    go_wp2
    go_ret
    exact ⟨_, rfl, hfr.out _ 3 rfl (by omega), hbl.out _⟩
  by_cases c5 : 65536 ≤ r ∧ r ≤ 1114111
  · obtain ⟨c5, c6⟩ := c5
    have e : Lib.runeCells r = [.int .u8 (240 + r / 262144), .int .u8 (128 + r / 4096 % 64), .int .u8 (128 + r / 64 % 64), .int .u8 (128 + r % 64)] := by simp [Lib.runeCells, Lib.encodeRuneZ_four c5 c6]
    have hb : decide (r ≤ 57343) = false := decide_eq_false (by omega)
    rw [e]
    clear e
    go_enter Tryz.func45, Tryz.ntmps45
    go_wp2
    go_ret
    exact ⟨_, rfl, hfr.out _ 4 rfl (by omega), hbl.out _⟩
  have e : Lib.runeCells r = [.int .u8 239, .int .u8 191, .int .u8 189] := by simp [Lib.runeCells, Lib.encodeRuneZ_bad (r := r) (by omega)]
  rw [e]
  clear e
  have hc : r < 0 ∨ 1114111 < r ∨ (55296 ≤ r ∧ r ≤ 57343) := by omega
  clear c1 c2 c3 c4 c5
  rcases hc with hc | hc | ⟨hc, hc2⟩
  all_goals
    go_enter Tryz.func45, Tryz.ntmps45
    go_wp2
    go_ret
    exact ⟨_, rfl, hfr.out _ 3 rfl (by omega), hbl.out _⟩
theorem runeCells_one (r : Int) : ∀ u ∈ Lib.runeCells r, u.oneCell' = true := by
  intro u hu
  simp only [Lib.runeCells, List.mem_map] at hu
  obtain ⟨x, _, rfl⟩ := hu
  rfl
set_option maxHeartbeats 1000000 in
set_option maxRecDepth 100000 in
theorem ref01Text (v : Value) (rs : List Int) (w : World) (hs : Sl w v (i32s rs)) (hr : ∀ r ∈ rs, -2147483648 ≤ r ∧ r ≤ 2147483647) (hl : rs.length ≤ 1073741824) :
    Calls Tryz.prog 32 #[v] w fun e w' => e = .returned (.string ⟨(M1.text rs).toArray⟩) ∧ Below w.heap.size w w' := by
  obtain ⟨a, cap, rfl, h2, h3, h4, h5⟩ := hs
  rw [i32s_length] at *
  go_enter Tryz.func32, Tryz.ntmps32
  go_wp2
  go_loopw [3, 4] (fun v3 i wr => ∃ k : Nat, i = .int .i64 k ∧ k ≤ rs.length ∧ wr.ownsRow w.heap.size 5 1 v3 (M1.text (rs.take k)).length (u8s (M1.text (rs.take k))) ∧ Below w.heap.size w wr) (fun _ i _ => rs.length - (intOf i).toNat)
  case atStart => exact ⟨0, rfl, by omega, World.ownsRow_nil _ _ _ _, Below.refl _ _⟩
  case round =>
    obtain ⟨k, rfl, hk, hown, hbw⟩ := hrel
    have htl := M1.text_len_le (rs.take k)
    have htk : (rs.take k).length ≤ k := List.length_take_le _ _
    by_cases hlt : k < rs.length
    · obtain ⟨b, off, rfl, h7⟩ := h5 (ne_of_lt (k := k) (by simpa using hlt))
      have h8 := h7 k (by simpa using hlt)
      have h9 := World.block_lt_of_cell? w _ h8
      have hc : wr.cell? ⟨b, off + k, none⟩ = some (.int .i32 rs[k]) := by
        rw [hbw.cell h9, h8]; simp [i32s]
      have hrk := hr rs[k] (List.getElem_mem hlt)
      have htk1 := Lib.hid (List.take_succ_eq_append_getElem hlt)
      have hl4 := Lib.runeCells_le rs[k]
      have hco := Lib.hid (runeCells_one rs[k])
      clear h5 h7 h8
      generalize rs[k] = r at *
      go_wp2_with fail
      refine (ref01Bytes r _ hrk.1 hrk.2).mono ?_
      rintro e w1 ⟨y, rfl, hy, hb1⟩
      have hown1 := owns_below hown hb1
      have hs1 := hb1.size
      have hs2 := hbw.size
      go_wp2_with (at_builtin; refine wpList_appSl _ rfl _ _ 22 5 rfl w.heap.size Tryz.underlying22 infoU8 rfl _ _ _ rfl hown1 _ _ rfl hy hco.out (by omega) (by omega) (by have := hbw.size; omega) ?_)
      intro v' w2 hown2 hgrow
      go_wp2
      go_roundw
      case rel =>
        have e : u8s (M1.text [r]) = Lib.runeCells r := by
          rw [show M1.text [r] = Lib.encodeRune r by simp [M1.text]]; exact Lib.byteCells_encodeRune r
        have e2 : (M1.text [r]).length = (Lib.runeCells r).length := by rw [← e, u8s_length]
        refine ⟨k + 1, by go_num, by omega, ?_, below_row (hbw.trans (hb1.mono hs2)) hown1 hgrow (by omega) (Nat.le_refl _)⟩
        rw [htk1.out, M1.text_append, u8s_append, e, List.length_append, e2]
        exact hown2
      case measure => simp [intOf]; omega
    · clear h5 h4
      have hcv := (Sl.own hown).toString 22 9 5 Tryz.underlying22 Tryz.underlying5 Tryz.underlying9
      go_wp2
      go_ret
      rw [List.take_of_length_le (by omega)]
      exact ⟨rfl, hbw⟩
end Go.Proofs.YteefodibpjgicaaGreat

namespace Go.Proofs.YteefodibpjgicaaGreat
open Go.RowKit
set_option maxHeartbeats 2000000 in
set_option maxRecDepth 100000 in
theorem ref01Right (v : Value) (l : List UInt8) (w : World) (hs : Sl w v (u8s l)) (hl : l.length ≤ 268435456) :
    Calls Tryz.prog 14 #[v] w fun e w' => e = .returned (.string ⟨(M1.right l).toArray⟩) ∧ Below w.heap.size w w' := by
  have hrl := M1.runes_len l.length l (Nat.le_refl _)
  have hml := M1.mk_len (M1.runes l) false
  have hok := Lib.hid (M1.right_ok l)
  go_enter Tryz.func14, Tryz.ntmps14
  go_wp2_with fail
  refine (ref01Runes v l w hs (by omega)).mono ?_
  rintro e w0 ⟨v0, rfl, hs0, hb0⟩
  have hr : Hid (M1.right l = M1.text (M1.mk false (M1.runes l))) := rfl
  generalize M1.runes l = rs at *
  have hs00 := hs0
  obtain ⟨a, cap, rfl, h2, h3, h4, h5⟩ := hs0
  rw [i32s_length] at *
  have hz0 := hb0.size
  go_wp2
  go_loopw [4, 5] (fun v4 i wr => ∃ (k : Nat) (acc : List Int), i = .int .i64 k ∧ k ≤ rs.length ∧ acc.length ≤ k ∧ wr.ownsRow w0.heap.size 21 1 v4 acc.length (i32s acc) ∧ Below w0.heap.size w0 wr ∧ Hid (M1.mk false rs = acc ++ M1.mk (M1.prev rs k) (rs.drop k))) (fun _ i _ => rs.length - (intOf i).toNat)
  case atStart => exact ⟨0, [], rfl, by omega, by simp, World.ownsRow_nil _ _ _ _, Below.refl _ _, rfl⟩
  case round =>
    obtain ⟨k, acc, rfl, hk, hak, hown, hbw, hacc⟩ := hrel
    by_cases hlt : k < rs.length
    · obtain ⟨b, off, rfl, h7⟩ := h5 (ne_of_lt (k := k) (by simpa using hlt))
      have hcell : ∀ j, (hj : j < rs.length) → wr.cell? ⟨b, off + j, none⟩ = some (.int .i32 rs[j]) := fun j hj => by
        have h8 := h7 j (by simpa using hj)
        rw [hbw.cell (World.block_lt_of_cell? w0 _ h8), h8]; simp [i32s]
      have hc := hcell k hlt
      have hd := M1.mk_drop rs k hlt
      have hacc1 := Lib.hid (hacc.out.trans (congrArg (acc ++ ·) hd))
      have hx := Lib.hid (rfl : M1.piece rs[k] (M1.prev rs k) = M1.piece rs[k] (M1.prev rs k))
      have fin0 : ∀ (y : Int) (w2 : World) (v2 : Value), M1.piece rs[k] (M1.prev rs k) = [y] → w2.ownsRow w0.heap.size 21 1 v2 (acc.length + 1) (i32s acc ++ [.int .i32 y]) → wr.grownBy w2 u4.ownBlock →
          ∃ (k' : Nat) (acc' : List Int), Value.int .i64 ((k : Int) + 1) = .int .i64 k' ∧ k' ≤ rs.length ∧ acc'.length ≤ k' ∧ w2.ownsRow w0.heap.size 21 1 v2 acc'.length (i32s acc') ∧ Below w0.heap.size w0 w2 ∧ Hid (M1.mk false rs = acc' ++ M1.mk (M1.prev rs k') (rs.drop k')) := by
        intro y w2 v2 hp ho hg
        refine ⟨k + 1, acc ++ [y], by go_num, by omega, by simp; omega, ?_, below_row hbw hown hg hbw.size (Nat.le_refl _), ?_⟩
        · rw [i32s_append, List.length_append]; exact ho
        · show _ = _
          rw [hacc1.out, hp, List.append_assoc]
      have fin := Lib.hid fin0
      clear h5 h7 hd h4 hacc fin0 hx
      have hbz := hbw.size
      by_cases h13 : rs[k] = 13
      · have hp : M1.piece rs[k] (M1.prev rs k) = [10] := by rw [M1.piece, if_pos h13]
        have hp := Lib.hid hp
        rw [h13] at hc
        clear h13 hcell
        go_wp2_with (at_builtin; refine wpList_app1 _ _ rfl _ _ 48 21 rfl w0.heap.size Tryz.underlying48 info32' rfl _ _ _ rfl hown rfl rfl (by omega) (by omega) (by have := hbw.size; omega) ?_)
        intro v' w2 hown2 hgrow
        go_wp2
        go_roundw
        case rel => exact fin.out _ _ _ hp.out hown2 hgrow
        case measure => simp [intOf]; omega
      by_cases h10 : rs[k] = 10
      · rw [h10] at hc
        by_cases hk0 : k = 0
        · subst hk0
          have hp : M1.piece rs[0] (M1.prev rs 0) = [10] := by rw [M1.piece, if_neg h13, if_neg (by simp [M1.prev]), if_neg (by omega), h10]
          have hp := Lib.hid hp
          have hak' : acc.length ≤ 1 := by omega
          have hc : wr.cell? ⟨b, off, none⟩ = some (.int .i32 10) := hc
          clear h13 h10 hcell hak
          go_wp2_with (at_builtin; refine wpList_app1 _ _ rfl _ _ 48 21 rfl w0.heap.size Tryz.underlying48 info32' rfl _ _ _ rfl hown rfl rfl (by omega) (by omega) (by have := hbw.size; omega) ?_)
          intro v' w2 hown2 hgrow
          go_wp2
          go_roundw
          case rel => exact fin.out _ _ _ hp.out hown2 hgrow
          case measure => simp [intOf]; omega
        · obtain ⟨j, rfl⟩ : ∃ j, k = j + 1 := ⟨k - 1, by omega⟩
          have hcj := hcell j (by omega)
          by_cases hj : rs[j]'(by omega) = 13
          · have hp : M1.piece rs[j + 1] (M1.prev rs (j + 1)) = [] := by
              have hpv : M1.prev rs (j + 1) = true := by simp [M1.prev, List.getD_eq_getElem?_getD, List.getElem?_eq_getElem (show j < rs.length by omega), hj]
              rw [M1.piece, if_neg h13, if_pos ⟨h10, hpv⟩]
            have hr2 : Hid (M1.mk false rs = acc ++ M1.mk (M1.prev rs (j + 1 + 1)) (rs.drop (j + 1 + 1))) := by
              show _ = _
              rw [hacc1.out, hp, List.nil_append]
            rw [hj] at hcj
            clear h13 h10 hcell hj fin
            go_wp2
            go_roundw
            case rel => exact ⟨j + 1 + 1, acc, by go_num, by omega, by omega, hown, hbw, hr2⟩
            case measure => simp [intOf]; omega
          · have hp : M1.piece rs[j + 1] (M1.prev rs (j + 1)) = [10] := by
              rw [M1.piece, if_neg h13, if_neg ?_, if_neg (by omega), h10]
              intro h
              have h2 := h.2
              simp [M1.prev, List.getD_eq_getElem?_getD, List.getElem?_eq_getElem (show j < rs.length by omega)] at h2
              exact hj h2
            have hp := Lib.hid hp
            generalize rs[j]'(by omega) = y at *
            have hyb : (y == 13) = false := by simpa using hj
            clear h13 h10 hcell hj
            go_wp2_with (at_builtin; refine wpList_app1 _ _ rfl _ _ 48 21 rfl w0.heap.size Tryz.underlying48 info32' rfl _ _ _ rfl hown rfl rfl (by omega) (by omega) (by have := hbw.size; omega) ?_)
            intro v' w2 hown2 hgrow
            go_wp2
            go_roundw
            case rel => exact fin.out _ _ _ hp.out hown2 hgrow
            case measure => simp [intOf]; omega
      by_cases h0 : rs[k] = 0
      · have hp : M1.piece rs[k] (M1.prev rs k) = [65533] := by rw [M1.piece, if_neg h13, if_neg (fun h => h10 h.1), if_pos h0]
        have hp := Lib.hid hp
        rw [h0] at hc
        clear h13 h10 hcell
        go_wp2_with (at_builtin; refine wpList_app1 _ _ rfl _ _ 48 21 rfl w0.heap.size Tryz.underlying48 info32' rfl _ _ _ rfl hown rfl rfl (by omega) (by omega) (by have := hbw.size; omega) ?_)
        intro v' w2 hown2 hgrow
        go_wp2
        go_roundw
        case rel => exact fin.out _ _ _ hp.out hown2 hgrow
        case measure => simp [intOf]; omega
      have hp : M1.piece rs[k] (M1.prev rs k) = [rs[k]] := by rw [M1.piece, if_neg h13, if_neg (fun h => h10 h.1), if_neg h0]
      have hp := Lib.hid hp
      generalize rs[k] = x at *
      have h13b : (x == 13) = false := by simpa using h13
      have h10b : (x == 10) = false := by simpa using h10
      have h0b : (x == 0) = false := by simpa using h0
      clear h13 h10 h0 hcell
      go_wp2_with (at_builtin; refine wpList_app1 _ _ rfl _ _ 48 21 rfl w0.heap.size Tryz.underlying48 info32' rfl _ _ _ rfl hown rfl rfl (by omega) (by omega) (by have := hbw.size; omega) ?_)
      intro v' w2 hown2 hgrow
      go_wp2
      go_roundw
      case rel => exact fin.out _ _ _ hp.out hown2 hgrow
      case measure => simp [intOf]; omega
    · clear h5 h4
      have h := hacc.out
      rw [List.drop_of_length_le (by omega), M1.mk, List.append_nil] at h
      go_wp2_with fail
      refine (ref01Text _ acc _ (Sl.own hown) ?_ (by omega)).mono ?_
      · intro r hr
        rw [← h] at hr
        have := (hok.out r hr).1
        unfold M1.okRune at this
        omega
      rintro e w1 ⟨rfl, hb1⟩
      go_wp2
      go_ret
      rw [hr.out, h]
      exact ⟨rfl, (hb0.trans (hbw.mono hz0)).trans (hb1.mono (by have := hbw.size; omega))⟩
set_option maxHeartbeats 1000000 in
set_option maxRecDepth 100000 in
theorem ref01Is (s : ByteArray) (w : World) (hs : s.size ≤ 268435456) :
    Calls Tryz.prog 52 #[.string s] w fun e w' => e = .returned (.bool (M1.isB s.data.toList)) ∧ Below w.heap.size w w' := by
  have hcv := Lib.run_convert_string_bytes (P := Tryz.prog) w 9 22 5 s Tryz.underlying9 Tryz.underlying22 Tryz.underlying5
  have hS := Sl.bytes w 5 s (by omega)
  have hB := below_bytesWorld w 5 s
  generalize grownCap w s.size 0 5 = cap at *
  generalize Lib.bytesWorld w 5 s = w0 at *
  have hz := hB.size
  have hi := M1.isB_right_iff s.data.toList
  go_enter Tryz.func52, Tryz.ntmps52
  go_wp2_with fail
  refine (ref01Right _ s.data.toList w0 hS (show s.data.toList.length ≤ 268435456 from hs)).mono ?_
  rintro e w1 ⟨rfl, hb1⟩
  go_wp2
  go_ret
  refine ⟨?_, hB.trans (hb1.mono hz)⟩
  have e : (M1.right s.data.toList == s.data.toList) = M1.isB s.data.toList := by
    rw [Bool.eq_iff_iff, beq_iff_eq]; exact hi.symm
  rw [← e]
  simp [ByteArray.toList_eq]
set_option maxHeartbeats 1000000 in
set_option maxRecDepth 100000 in
theorem ref01Fold (s : ByteArray) (w : World) (hs : s.size ≤ 1073741824) :
    Calls Tryz.prog 90 #[.string s] w fun e w' => e = .returned (.string ⟨(M1.fold s.data.toList).toArray⟩) ∧ Below w.heap.size w w' := by
  go_enter Tryz.func90, Tryz.ntmps90
  go_wp2
  go_loopw [3, 4] (fun v3 i wr => ∃ (k : Nat), i = .int .i64 k ∧ k ≤ s.size ∧ wr.ownsRow w.heap.size 5 1 v3 k (u8s (M1.fold (s.data.toList.take k))) ∧ Below w.heap.size w wr) (fun _ i _ => s.size - (intOf i).toNat)
  case atStart => exact ⟨0, rfl, by omega, World.ownsRow_nil _ _ _ _, Below.refl _ _⟩
  case round =>
    obtain ⟨k, rfl, hk, hown, hbw⟩ := hrel
    by_cases hlt : k < s.size
    · have hls : k < s.data.toList.length := hlt
      have hbz := hbw.size
      have e1 := Lib.hid (List.take_succ_eq_append_getElem (l := s.data.toList) hls)
      have hsm := M1.small_nat s[k]
      have hcl := s[k].toNat_lt
      have hcl : s[k].toNat < 256 := hcl
      by_cases hup : 65 ≤ s[k].toNat ∧ s[k].toNat ≤ 90
      · rw [if_pos hup] at hsm
        have hsm := Lib.hid hsm
        obtain ⟨h1, h2⟩ := hup
        go_wp2_with (at_builtin; refine wpList_app1 _ _ rfl _ _ 22 5 rfl w.heap.size Tryz.underlying22 infoU8 rfl _ _ _ rfl hown rfl rfl (by omega) (by omega) (by have := hbw.size; omega) ?_)
        intro v' w2 hown2 hgrow
        go_wp2
        go_roundw
        case rel =>
          refine ⟨k + 1, by go_num, by omega, ?_, below_row hbw hown hgrow hbz (Nat.le_refl _)⟩
          rw [e1.out, M1.fold, List.map_append, u8s_append]
          have e3 : u8s (List.map M1.small [s.data.toList[k]]) = [.int .u8 ((s[k].toNat : Int) + 32)] := by
            show [Value.int .u8 ((M1.small s[k]).toNat : Int)] = _
            rw [hsm.out]; rfl
          rw [e3]; exact hown2
        case measure => simp [intOf]; omega
      · rw [if_neg hup] at hsm
        have hsm := Lib.hid hsm
        have hup2 : s[k].toNat < 65 ∨ 90 < s[k].toNat := by omega
        clear hup
        have hadd : ∀ v2 w2, World.ownsRow w2 w.heap.size 5 1 v2 (k + 1) (u8s (M1.fold (s.data.toList.take k)) ++ [.int .u8 (s[k].toNat : Int)]) → World.ownsRow w2 w.heap.size 5 1 v2 (k + 1) (u8s (M1.fold (s.data.toList.take (k + 1)))) := by
          intro v2 w2 h
          rw [e1.out, M1.fold, List.map_append, u8s_append]
          have e3 : u8s (List.map M1.small [s.data.toList[k]]) = [.int .u8 (s[k].toNat : Int)] := by
            show [Value.int .u8 ((M1.small s[k]).toNat : Int)] = _
            rw [hsm.out]
          rw [e3]; exact h
        have hadd := Lib.hid hadd
        rcases hup2 with hup | hup
        · go_wp2_with (at_builtin; refine wpList_app1 _ _ rfl _ _ 22 5 rfl w.heap.size Tryz.underlying22 infoU8 rfl _ _ _ rfl hown rfl rfl (by omega) (by omega) (by have := hbw.size; omega) ?_)
          intro v' w2 hown2 hgrow
          go_wp2
          go_roundw
          case rel => exact ⟨k + 1, by go_num, by omega, hadd.out _ _ hown2, below_row hbw hown hgrow hbz (Nat.le_refl _)⟩
          case measure => simp [intOf]; omega
        · go_wp2_with (at_builtin; refine wpList_app1 _ _ rfl _ _ 22 5 rfl w.heap.size Tryz.underlying22 infoU8 rfl _ _ _ rfl hown rfl rfl (by omega) (by omega) (by have := hbw.size; omega) ?_)
          intro v' w2 hown2 hgrow
          go_wp2
          go_roundw
          case rel => exact ⟨k + 1, by go_num, by omega, hadd.out _ _ hown2, below_row hbw hown hgrow hbz (Nat.le_refl _)⟩
          case measure => simp [intOf]; omega
    · obtain rfl : k = s.size := by omega
      rw [List.take_of_length_le (l := s.data.toList) (show s.data.toList.length ≤ s.size from Nat.le_refl _)] at hown
      have hcv := (Sl.own hown).toString 22 9 5 Tryz.underlying22 Tryz.underlying5 Tryz.underlying9
      go_wp2
      go_ret
      exact ⟨rfl, hbw⟩
end Go.Proofs.YteefodibpjgicaaGreat

namespace Go.Proofs.YteefodibpjgicaaGreat
open Go.Shelf Go.RowKit
set_option maxHeartbeats 2000000 in
set_option maxRecDepth 100000 in
theorem bWriteString (B b : Nat) (bs : List Value) (s : ByteArray) (w : World) (h : Lib.IsBuilderF 120 5 B b bs w) (hlen : bs.length + s.size ≤ 140737488355328) (hBw : B ≤ w.heap.size) :
    Calls Tryz.prog 106 #[.pointer (some ⟨b, 0, none⟩), .string s] w fun e w' => e = .returned (.tuple #[.int .i64 s.size, .nilIface]) ∧ (Lib.BuilderAtF 120 5 B b (.pointer (some ⟨b, 0, none⟩)) (bs ++ Lib.strCells s) w' ∧ Below B w w' ∧ Lib.OthersKept 5 (some b) w w') := by
  obtain ⟨i0, hi, hz0, hz1, hz2⟩ := info_parts infoU8
  go_enter Tryz.func106, Tryz.ntmps106
  go_wp2_with (go_at_call 114; refine (copyCheck_k B b bs _ h).mono ?_)
  rintro e w1 ⟨rfl, h1, hb1, hk1⟩
  obtain ⟨hB, v, hbk, hown, hne⟩ := h1
  have c0 : w1.cell? ⟨b, 0, none⟩ = some (.pointer (some ⟨b, 0, none⟩)) := by rw [Lib.cell_of_heap hbk]; rfl
  have c1 : w1.cell? ⟨b, 1, none⟩ = some v := by rw [Lib.cell_of_heap hbk]; rfl
  go_wp2_with (at_builtin; refine Lib.wpList_append_own_stringF _ rfl _ _ 22 9 rfl B 5 i0 Tryz.underlying22 Tryz.underlying9 hi hz0 hz1 hz2 _ _ _ rfl hown s rfl ?c3 ?c4 ?c5 ?_)
  case c3 => unfold maxLen; omega
  case c4 => omega
  case c5 => have := hb1.size; omega
  intro v' w2 hown' hgrow _
  have hlt : b < w1.heap.size := by
    rcases Nat.lt_or_ge b w1.heap.size with h' | h'
    · exact h'
    · simp [Array.getElem?_eq_none h'] at hbk
  have hb2 : w2.heap[b]? = some (.cells #[.pointer (some ⟨b, 0, none⟩), v] 120 (0, 0)) := by
    rw [hgrow.block b hlt (fun e => hne e.symm)]
    exact hbk
  have d0 : w2.cell? ⟨b, 0, none⟩ = some (.pointer (some ⟨b, 0, none⟩)) := by rw [Lib.cell_of_heap hb2]; rfl
  have d1 : w2.cell? ⟨b, 1, none⟩ = some v := by rw [Lib.cell_of_heap hb2]; rfl
  have f1 : w2.frozen? ⟨b, 1, none⟩ = false := Lib.frozen_of_heap hb2 1
  obtain ⟨ao, n', cap, rfl⟩ : ∃ ao n' cap, v' = .slice ao n' cap := by
    rcases hown'.2 with ⟨hv, _⟩ | ⟨g, cap, cur, fz, hv, _⟩
    · exact ⟨_, _, _, hv⟩
    · exact ⟨_, _, _, hv⟩
  go_wp2
  go_ret2
  refine ⟨rfl, ?_, ?_, (hk1.grown hgrow (Lib.ownsRowF_kind hown)).setCell ⟨b, 1, none⟩ rfl _⟩
  · exact Lib.BuilderAtF.put (T := 120) (e := 5) hB hb2 (bs' := bs ++ Lib.strCells s) (by simpa [Lib.strCells_length] using hown') (by decide)
  · exact (hb1.grown hgrow (by have := hb1.size; omega) (fun k hk => (hown.lt k hk).1)).setCell (p := ⟨b, 1, none⟩) hB _
set_option maxHeartbeats 1000000 in
set_option maxRecDepth 100000 in
theorem liteIndexByte (s : ByteArray) (c : Int) (w : World) :
    Calls Tryz.prog 132 #[.string s, .int .u8 c] w fun e w' => e = .returned (.int .i64 (Lib.indexByte s.data.toList c.toNat.toUInt8)) ∧ w' = w := by
  go_enter Tryz.func132, Tryz.ntmps132
  go_wp2
  rw [run_callFunc_extern Tryz.func133 (by kernel_rfl) (by kernel_rfl) (by kernel_rfl) (e := Extern.BytealgIndexByte.indexByte) (by kernel_rfl), Lib.run_indexByteString]
  simp only [Result.andThen]
  rw [Oper.upon_value]
  go_wp2
  go_ret
  exact ⟨rfl, rfl⟩
set_option maxHeartbeats 1000000 in
theorem sIndexByte (s : ByteArray) (c : Int) (w : World) :
    Calls Tryz.prog 128 #[.string s, .int .u8 c] w fun e w' => e = .returned (.int .i64 (Lib.indexByte s.data.toList c.toNat.toUInt8)) ∧ w' = w := by
  go_enter Tryz.func128, Tryz.ntmps128
  go_wp2_with (go_at_call 132; refine (liteIndexByte _ _ _).mono ?_; rintro e w' ⟨rfl, rfl⟩)
  go_ret
  exact ⟨rfl, rfl⟩
set_option maxHeartbeats 2000000 in
set_option maxRecDepth 100000 in
theorem liteIndex1 (s : ByteArray) (c : UInt8) (w : World) :
    Calls Tryz.prog 194 #[.string s, .string ⟨#[c]⟩] w fun e w' => e = .returned (.int .i64 (Lib.indexByte s.data.toList c)) ∧ w' = w := by
  go_enter Tryz.func194, Tryz.ntmps194
  go_wp2_with (go_at_call 132; refine (liteIndexByte _ _ _).mono ?_; rintro e w' ⟨rfl, rfl⟩)
  · have h : ([c] == s.toList) = true := by assumption
    go_ret
    refine ⟨?_, rfl⟩
    have e : s.data.toList = [c] := by rw [← Lib.toList_data]; exact (beq_iff_eq.1 h).symm
    rw [e]
    simp [Lib.indexByte]
  · go_ret
    exact ⟨rfl, rfl⟩
set_option maxHeartbeats 1000000 in
theorem sIndex1 (s : ByteArray) (c : UInt8) (w : World) :
    Calls Tryz.prog 187 #[.string s, .string ⟨#[c]⟩] w fun e w' => e = .returned (.int .i64 (Lib.indexByte s.data.toList c)) ∧ w' = w := by
  go_enter Tryz.func187, Tryz.ntmps187
  go_wp2_with (go_at_call 194; refine (liteIndex1 _ _ _).mono ?_; rintro e w' ⟨rfl, rfl⟩)
  go_ret
  exact ⟨rfl, rfl⟩
set_option maxHeartbeats 1000000 in
theorem sContains1 (s : ByteArray) (c : UInt8) (w : World) :
    Calls Tryz.prog 176 #[.string s, .string ⟨#[c]⟩] w fun e w' => e = .returned (.bool (decide (0 ≤ Lib.indexByte s.data.toList c))) ∧ w' = w := by
  go_enter Tryz.func176, Tryz.ntmps176
  go_wp2_with (go_at_call 187; refine (sIndex1 _ _ _).mono ?_; rintro e w' ⟨rfl, rfl⟩)
  go_ret
  exact ⟨rfl, rfl⟩
def Tryz.lays316_ren : Go.Shelf.Ren := ⟨fun | 316 => 181 | n => n, fun | 0 => 0 | 3 => 3 | 4 => 4 | 5 => 5 | 9 => 9 | 37 => 22 | 127 => 129 | n => n, fun | n => n⟩
theorem Tryz.lays316 : Go.Proofs.LaysM.n316 Tryz.prog Tryz.lays316_ren := {
  mixed := by kernel_rfl
  f316 := Tryz.func181.trans (congrArg some (by kernel_rfl))
  t0 := Tryz.underlying0
  a0 := Tryz.isAgg0
  z0 := Tryz.sizeOf0
  v0 := Tryz.zeroValue0
  t3 := Tryz.underlying3
  a3 := Tryz.isAgg3
  z3 := Tryz.sizeOf3
  v3 := Tryz.zeroValue3
  t4 := Tryz.underlying4
  a4 := Tryz.isAgg4
  z4 := Tryz.sizeOf4
  v4 := Tryz.zeroValue4
  t5 := Tryz.underlying5
  a5 := Tryz.isAgg5
  z5 := Tryz.sizeOf5
  v5 := Tryz.zeroValue5
  t9 := Tryz.underlying9
  a9 := Tryz.isAgg9
  z9 := Tryz.sizeOf9
  v9 := Tryz.zeroValue9
  t37 := Tryz.underlying22
  a37 := Tryz.isAgg22
  z37 := Tryz.sizeOf22
  v37 := Tryz.zeroValue22
  t127 := Tryz.underlying129
  a127 := Tryz.isAgg129
  z127 := Tryz.sizeOf129
  v127 := Tryz.zeroValue129
  i0 := by kernel_rfl
  i3 := by kernel_rfl
  i4 := by kernel_rfl
  i5 := by kernel_rfl
  i9 := by kernel_rfl
  i37 := by kernel_rfl
  i127 := by kernel_rfl }
theorem liteClone (s : ByteArray) (w : World) (hs : s.size ≤ 281474976710656) :
    Calls Tryz.prog 181 #[.string s] w fun e w' => e = .returned (.string s) ∧ Below w.heap.size w w' := Any.stringslite_Clone Tryz.lays316 s w hs
set_option maxHeartbeats 1000000 in
theorem sClone (s : ByteArray) (w : World) (hs : s.size ≤ 281474976710656) :
    Calls Tryz.prog 169 #[.string s] w fun e w' => e = .returned (.string s) ∧ Below w.heap.size w w' := by
  go_enter Tryz.func169, Tryz.ntmps169
  go_wp2_with (go_at_call 181; refine (liteClone _ _ hs).mono ?_; rintro e w' ⟨rfl, hb⟩)
  go_ret
  exact ⟨rfl, hb⟩
end Go.Proofs.YteefodibpjgicaaGreat

namespace Go.Proofs.YteefodibpjgicaaGreat
open Go.RowKit
theorem add_plain' (b off j : Nat) : (⟨b, off, none⟩ : Addr).add j = ⟨b, off + j, none⟩ := by unfold Addr.add; split <;> simp_all
theorem Sl.fresh' (w : World) (e : TypeId) (xs : List Value) (n : Nat) (hn : xs.length = n) (h : n ≤ 4000) : Sl (w.alloc (.cells xs.toArray e)) (.slice (some ⟨w.heap.size, 0, none⟩) n n) xs := by
  subst hn
  refine ⟨_, xs.length, rfl, Nat.le_refl _, by omega, (fun h => by cases h), fun _ => ⟨_, 0, rfl, fun j hj => ?_⟩⟩
  rw [Nat.zero_add, World.cell?_alloc_at _ _ _ _ rfl]
  simp [hj]
theorem bt {w w1 w2 : World} (h : Below w.heap.size w w1) (k : Below w1.heap.size w1 w2) : Below w.heap.size w w2 := h.trans (k.mono h.size)
theorem conv_bytes (w : World) (s : ByteArray) (hs : s.size ≤ 9223372036854775807) : ∃ v w', (convert 9 22 (.string s)).run Tryz.prog w = .ok v w' ∧ Sl w' v (u8s s.data.toList) ∧ Below w.heap.size w w' :=
  ⟨_, _, Lib.run_convert_string_bytes (P := Tryz.prog) w 9 22 5 s Tryz.underlying9 Tryz.underlying22 Tryz.underlying5, Sl.bytes w 5 s hs, below_bytesWorld w 5 s⟩
end Go.Proofs.YteefodibpjgicaaGreat

namespace Go.Proofs.YteefodibpjgicaaGreat
open Go.RowKit
def namesV : List Value := M2.tbl.map fun p => .string ⟨p.1.toArray⟩
def codesV : List Value := M2.tbl.map fun p => .int .i64 (p.2 : Int)
set_option maxHeartbeats 2000000 in
set_option maxRecDepth 100000 in
theorem ref02Name (s : ByteArray) (w : World) :
    Calls Tryz.prog 100 #[.string s] w fun e w' => e = .returned (.tuple #[.int .i64 (((M2.nm s.data.toList).getD 0 : Nat) : Int), .bool (M2.nm s.data.toList).isSome]) ∧ Below w.heap.size w w' := by
  generalize hx : (((M2.nm s.data.toList).getD 0 : Nat) : Int) = x
  generalize hy : (M2.nm s.data.toList).isSome = y
  replace hx := Lib.hid hx
  replace hy := Lib.hid hy
  go_enter Tryz.func100, Tryz.ntmps100
  go_wp2
  go_loopw [6] (fun i wr => ∃ k : Nat, k ≤ 15 ∧ i = .int .i64 k ∧ Sl wr (.slice (some ⟨w.heap.size, 0, none⟩) 15 15) namesV ∧ Sl wr (.slice (some ⟨w.heap.size + 1, 0, none⟩) 15 15) codesV ∧ Below w.heap.size w wr ∧ Hid (∀ p ∈ M2.tbl.take k, p.1 ≠ s.data.toList)) (fun i _ => 15 - (intOf i).toNat)
  case atStart =>
    have h1 := Sl.fresh' w 9 namesV 15 rfl (by omega)
    have h2 := Sl.fresh' (w.alloc (.cells namesV.toArray 9)) 3 codesV 15 rfl (by omega)
    refine ⟨0, by omega, rfl, h1.below ((Below.refl _ _).alloc (Nat.le_refl _) _), ?_, ((Below.refl _ w).alloc (Nat.le_refl _) _).alloc (by simp) _, by intro p hp; simp at hp⟩
    rw [show (w.alloc (.cells namesV.toArray 9)).heap.size = w.heap.size + 1 by simp] at h2
    exact h2
  case round =>
    obtain ⟨k, hk, rfl, hsn, hsc, hbw, hno⟩ := hrel
    by_cases hlt : k < 15
    · have hlt' : k < M2.tbl.length := hlt
      have hsn0 := Lib.hid hsn
      have hsc0 := Lib.hid hsc
      obtain ⟨_, _, h1, _, _, _, hcn⟩ := hsn
      obtain ⟨_, _, h2, _, _, _, hcc⟩ := hsc
      obtain ⟨b1, o1, h3, hcn⟩ := hcn (by decide)
      obtain ⟨b2, o2, h4, hcc⟩ := hcc (by decide)
      cases h1
      cases h2
      cases h3
      cases h4
      have c1 := hcn k (by simpa [namesV] using hlt')
      have c2 := hcc k (by simpa [codesV] using hlt')
      simp only [namesV, codesV, List.getElem_map, Nat.zero_add] at c1 c2
      have hmem := List.getElem_mem hlt'
      have htk : M2.tbl.take (k + 1) = M2.tbl.take k ++ [M2.tbl[k]] := List.take_succ_eq_append_getElem hlt'
      have hnm := M2.nm_of_mem hmem
      generalize M2.tbl[k] = p at *
      obtain ⟨pn, pc⟩ := p
      simp only at c1 c2 hnm
      clear hcn hcc hmem
      by_cases he : pn = s.data.toList
      · have hbe : (pn == s.toList) = true := by rw [Lib.toList_data, beq_iff_eq]; exact he
        rw [he] at hnm
        replace hnm := Lib.hid hnm
        clear he htk hno
        go_wp2
        go_ret2
        rw [← hx.out, ← hy.out, hnm.out]
        exact ⟨rfl, hbw⟩
      · have hbe : (pn == s.toList) = false := by rw [Lib.toList_data, beq_eq_false_iff_ne]; exact he
        have hno2 : Hid (∀ p ∈ M2.tbl.take (k + 1), p.1 ≠ s.data.toList) := by
          intro p hp
          rw [htk] at hp
          rcases List.mem_append.1 hp with hp | hp
          · exact hno.out p hp
          · simp at hp; subst hp; exact he
        clear he htk hno hnm
        go_wp2
        go_roundw
        case rel => exact ⟨k + 1, by omega, by go_num, hsn0.out, hsc0.out, hbw, hno2⟩
        case measure => simp [intOf]; omega
    · obtain rfl : k = 15 := by omega
      have hnm : M2.nm s.data.toList = none := M2.nm_none (fun p hp => hno.out p (by rw [List.take_of_length_le (show M2.tbl.length ≤ 15 from Nat.le_refl _)]; exact hp))
      replace hnm := Lib.hid hnm
      clear hno hlt
      go_wp2
      go_ret2
      rw [← hx.out, ← hy.out, hnm.out]
      exact ⟨rfl, hbw⟩
def digN (b : Nat) (r : Int) : Int := if (b : Int) ≤ M2.digZ r then -1 else M2.digZ r
set_option maxHeartbeats 1000000 in
set_option maxRecDepth 100000 in
theorem ref02Digit (r : Int) (b : Nat) (w : World) (h0 : 0 ≤ r) (h255 : r ≤ 255) :
    Calls Tryz.prog 110 #[.int .u8 r, .int .i64 (b : Int)] w fun e w' => e = .returned (.int .i64 (digN b r)) ∧ w' = w := by
  have e1 := M2.digZ_bd r
  unfold digN
  clear e1
  by_cases h1 : 48 ≤ r ∧ r ≤ 57
  · rw [show M2.digZ r = r - 48 from if_pos h1]
    obtain ⟨h1, h2⟩ := h1
    have hd : decide (97 ≤ r) = false := decide_eq_false (by omega)
    have hd2 : decide (65 ≤ r) = false := decide_eq_false (by omega)
    by_cases hb : (b : Int) ≤ r - 48
    · rw [if_pos hb]
      go_enter Tryz.func110, Tryz.ntmps110
      go_wp2
      go_ret
      exact ⟨rfl, rfl⟩
    · rw [if_neg hb]
      have hb' : decide ((b : Int) ≤ r - 48) = false := decide_eq_false hb
      clear hb
      go_enter Tryz.func110, Tryz.ntmps110
      go_wp2
      go_ret
      exact ⟨rfl, rfl⟩
  by_cases h2 : 97 ≤ r ∧ r ≤ 102
  · rw [show M2.digZ r = r - 97 + 10 by rw [M2.digZ, if_neg h1, if_pos h2]]
    obtain ⟨h2, h3⟩ := h2
    have hd : decide (r ≤ 57) = false := decide_eq_false (by omega)
    have hd2 : decide (r ≤ 70) = false := decide_eq_false (by omega)
    clear h1
    by_cases hb : (b : Int) ≤ r - 97 + 10
    · rw [if_pos hb]
      go_enter Tryz.func110, Tryz.ntmps110
      go_wp2
      go_ret
      exact ⟨rfl, rfl⟩
    · rw [if_neg hb]
      have hb' : decide ((b : Int) ≤ r - 97 + 10) = false := decide_eq_false hb
      clear hb
      go_enter Tryz.func110, Tryz.ntmps110
      go_wp2
      go_ret
      exact ⟨rfl, rfl⟩
  by_cases h3 : 65 ≤ r ∧ r ≤ 70
  · rw [show M2.digZ r = r - 65 + 10 by rw [M2.digZ, if_neg h1, if_neg h2, if_pos h3]]
    obtain ⟨h3, h4⟩ := h3
    have hd : decide (r ≤ 57) = false := decide_eq_false (by omega)
    have hd2 : decide (97 ≤ r) = false := decide_eq_false (by omega)
    clear h1 h2
    by_cases hb : (b : Int) ≤ r - 65 + 10
    · rw [if_pos hb]
      go_enter Tryz.func110, Tryz.ntmps110
      go_wp2
      go_ret
      exact ⟨rfl, rfl⟩
    · rw [if_neg hb]
      have hb' : decide ((b : Int) ≤ r - 65 + 10) = false := decide_eq_false hb
      clear hb
      go_enter Tryz.func110, Tryz.ntmps110
      go_wp2
      go_ret
      exact ⟨rfl, rfl⟩
  · rw [show M2.digZ r = -1 by rw [M2.digZ, if_neg h1, if_neg h2, if_neg h3], if_neg (by omega)]
    go_enter Tryz.func110, Tryz.ntmps110
    go_wp2
    all_goals first | (exfalso; omega) | (go_ret; exact ⟨rfl, rfl⟩)
theorem digN_no {b : Nat} {c : UInt8} (h : M2.isD b c = false) : digN b c.toNat < 0 := by
  unfold digN
  have := M2.isD_no h
  split <;> omega
theorem digN_yes {b : Nat} {c : UInt8} (h : M2.isD b c = true) : digN b c.toNat = M2.digZ c.toNat ∧ 0 ≤ digN b c.toNat ∧ digN b c.toNat < b := by
  unfold M2.isD at h
  have := of_decide_eq_true h
  unfold digN
  rw [if_neg (by omega)]
  omega
def ansB (o : Option Int) : Value := .tuple #[.int .i64 (o.getD 0), .bool o.isSome]
theorem ansB_mk (o : Option Int) : ∃ x y, ansB o = .tuple #[.int .i64 x, .bool y] := ⟨_, _, rfl⟩
set_option maxHeartbeats 2000000 in
set_option maxRecDepth 100000 in
theorem ref02Number (s : ByteArray) (b m : Nat) (w : World) (hb0 : 1 ≤ b) (hb : b ≤ 16) (hm : m ≤ 7) (hpow : ∀ k, k ≤ m → ((b : Int)) ^ k ≤ 16777216) (hs : s.size ≤ 1073741824) :
    Calls Tryz.prog 99 #[.string s, .int .i64 (b : Int), .int .i64 (m : Int)] w fun e w' => e = .returned (ansB (M2.numR b m s.data.toList)) ∧ w' = w := by
  have hsz : s.data.toList.length = s.size := rfl
  have hnr : M2.numR b m s.data.toList = if 1 ≤ s.size ∧ s.size ≤ m ∧ s.data.toList.all (M2.isD b) = true then some (M2.chr (M2.val b s.data.toList)) else none := rfl
  by_cases h1 : s.size < 1
  · rw [hnr, if_neg (by omega)]
    have h0 : s.size = 0 := by omega
    clear hnr hpow h1 hsz
    go_enter Tryz.func99, Tryz.ntmps99
    go_wp2
    go_ret2
    exact ⟨rfl, rfl⟩
  by_cases h2 : m < s.size
  · rw [hnr, if_neg (by omega)]
    have hd : decide ((s.size : Int) < 1) = false := decide_eq_false (by omega)
    clear hnr hpow hsz h1
    go_enter Tryz.func99, Tryz.ntmps99
    go_wp2
    go_ret2
    exact ⟨rfl, rfl⟩
  have hd : decide ((s.size : Int) < 1) = false := decide_eq_false (by omega)
  have hd2 : decide (m < s.size) = false := decide_eq_false (by omega)
  have hle : s.size ≤ m := by omega
  have hge : 1 ≤ s.size := by omega
  generalize hR : M2.numR b m s.data.toList = R at *
  replace hnr := Lib.hid hnr
  replace hpow := Lib.hid hpow
  obtain ⟨x, y, hxy⟩ : ∃ x y, ansB R = .tuple #[.int .i64 x, .bool y] := ansB_mk R
  replace hxy := Lib.hid hxy
  rw [hxy.out]
  clear hR hsz h1 h2
  go_enter Tryz.func99, Tryz.ntmps99
  go_wp2
  go_loop [8, 9] (fun n i => ∃ k : Nat, k ≤ s.size ∧ i = .int .i64 k ∧ n = .int .i64 (M2.val b (s.data.toList.take k)) ∧ Hid (∀ c ∈ s.data.toList.take k, M2.isD b c = true)) (fun _ i => s.size - (intOf i).toNat)
  case atStart => exact ⟨0, by omega, rfl, rfl, by intro c hc; simp at hc⟩
  case round =>
    obtain ⟨k, hk, rfl, rfl, hall⟩ := hrel
    have hbd := M2.val_bd b _ hall.out
    have hlk : (s.data.toList.take k).length = k := by rw [List.length_take]; have : s.data.toList.length = s.size := rfl; omega
    have hpk := hpow.out k (by omega)
    rw [hlk] at hbd
    by_cases hlt : k < s.size
    · have htk : s.data.toList.take (k + 1) = s.data.toList.take k ++ [s[k]] := List.take_succ_eq_append_getElem (l := s.data.toList) hlt
      have hc8 := s[k].toNat_lt
      have hc0 : 0 ≤ (s[k].toNat : Int) := by omega
      have hc1 : (s[k].toNat : Int) ≤ 255 := by omega
      by_cases hd : M2.isD b s[k] = true
      · have hal : Hid (∀ c ∈ s.data.toList.take (k + 1), M2.isD b c = true) := by
          intro c hc
          rw [htk] at hc
          rcases List.mem_append.1 hc with hc | hc
          · exact hall.out c hc
          · simp at hc; subst hc; exact hd
        have hva : M2.val b (s.data.toList.take (k + 1)) = M2.val b (s.data.toList.take k) * b + M2.digZ s[k].toNat := by rw [htk, M2.val_snoc]
        obtain ⟨d1, d2, d3⟩ := digN_yes hd
        rw [← d1] at hva
        replace hva := Lib.hid hva
        have hm1 : M2.val b (s.data.toList.take k) * b ≤ 16777216 * 16 := Int.mul_le_mul (by omega) (by omega) (by omega) (by omega)
        have hm0 : 0 ≤ M2.val b (s.data.toList.take k) * b := Int.mul_nonneg hbd.1 (by omega)
        rw [Int.mul_comm] at hm1 hm0
        clear htk hd d1 hc8
        go_wp2_with (go_at_call 110; refine (ref02Digit _ _ _ hc0 hc1).mono ?_; rintro e w2 ⟨rfl, rfl⟩)
        go_round
        case rel => exact ⟨k + 1, by omega, by go_num, by rw [hva.out, Int.mul_comm], hal.out⟩
        case measure => simp [intOf]; omega
      · have hdf : M2.isD b s[k] = false := by simpa using hd
        have d1 := digN_no hdf
        have hR0 : R = none := by
          rw [hnr.out, if_neg]
          rintro ⟨_, _, h⟩
          exact hd (List.all_eq_true.1 h _ (List.mem_of_getElem? (List.getElem?_eq_getElem (l := s.data.toList) hlt)))
        rw [hR0] at hxy
        clear htk hd hdf hc8
        go_wp2_with (go_at_call 110; refine (ref02Digit _ _ _ hc0 hc1).mono ?_; rintro e w2 ⟨rfl, rfl⟩)
        go_ret2
        rw [← hxy.out]
        exact ⟨rfl, rfl⟩
    · obtain rfl : k = s.size := by omega
      have ht : s.data.toList.take s.size = s.data.toList := List.take_of_length_le (Nat.le_refl _)
      have hall2 := hall.out
      rw [ht] at hall2 hbd
      rw [ht]
      have hR0 : R = some (M2.chr (M2.val b s.data.toList)) := by
        rw [hnr.out, if_pos ⟨hge, hle, List.all_eq_true.2 hall2⟩]
      rw [hR0] at hxy
      clear hall hall2 ht hlk hlt hnr hR0
      generalize M2.val b s.data.toList = n at *
      by_cases hodd : n = 0 ∨ n = 13 ∨ (55296 ≤ n ∧ n ≤ 57343) ∨ 1114111 < n
      · rw [show M2.chr n = 65533 from if_pos hodd] at hxy
        go_wp2
        all_goals first | (exfalso; omega) | (go_ret2; rw [← hxy.out]; exact ⟨rfl, rfl⟩)
      · rw [show M2.chr n = n from if_neg hodd] at hxy
        have e0 : (n == 0) = false := by simpa using fun e => hodd (Or.inl e)
        have e1 : (n == 13) = false := by simpa using fun e => hodd (Or.inr (Or.inl e))
        have e2 : decide (1114111 < n) = false := decide_eq_false (fun e => hodd (Or.inr (Or.inr (Or.inr e))))
        by_cases h5 : 55296 ≤ n
        · have e3 : decide (n ≤ 57343) = false := decide_eq_false (fun e => hodd (Or.inr (Or.inr (Or.inl ⟨h5, e⟩))))
          clear hodd
          go_wp2
          go_ret2
          rw [← hxy.out]
          exact ⟨rfl, rfl⟩
        · have e4 : decide (55296 ≤ n) = false := decide_eq_false h5
          clear hodd
          go_wp2
          go_ret2
          rw [← hxy.out]
          exact ⟨rfl, rfl⟩
end Go.Proofs.YteefodibpjgicaaGreat

namespace Go.Proofs.YteefodibpjgicaaGreat
open Go.RowKit
def ansI (o : Option (Int × Nat)) : Value := .tuple #[.int .i64 ((o.map (·.1)).getD 0), .int .i64 (((o.map (·.2)).getD 0 : Nat) : Int)]
theorem ansI_none : ansI none = .tuple #[.int .i64 0, .int .i64 0] := rfl
theorem ansI_some (r : Int) (n : Nat) : ansI (some (r, n)) = .tuple #[.int .i64 r, .int .i64 (n : Int)] := rfl
theorem ansB_none : ansB none = .tuple #[.int .i64 0, .bool false] := rfl
theorem ansB_some (r : Int) : ansB (some r) = .tuple #[.int .i64 r, .bool true] := rfl
theorem ne_byte {c d : UInt8} (h : c ≠ d) : ((c.toNat : Int) == (d.toNat : Int)) = false := by
  simp only [beq_eq_false_iff_ne]
  intro e
  exact h (UInt8.toNat_inj.1 (by omega))
set_option maxHeartbeats 1000000 in
theorem ref02Name' (s : ByteArray) (w : World) :
    Calls Tryz.prog 100 #[.string s] w fun e w' => e = .returned (ansB ((M2.nm s.data.toList).map Int.ofNat)) ∧ Below w.heap.size w w' := by
  refine (ref02Name s w).mono ?_
  rintro e w' ⟨rfl, h⟩
  refine ⟨?_, h⟩
  cases M2.nm s.data.toList <;> rfl
theorem own_get (o : ByteArray) (k : Nat) (h : k < o.size) : o.data.toList[k]? = some o[k] := List.getElem?_eq_getElem (l := o.data.toList) h
theorem own_list (o : ByteArray) : o.data.toList.length = o.size := rfl
theorem own_two (o : ByteArray) (h : 1 < o.size) : ∃ t, o.data.toList = o[0] :: o[1] :: t := by
  have h0 := own_get o 0 (by omega)
  have h1 := own_get o 1 h
  generalize o.data.toList = l at *
  match l, h0, h1 with
  | a :: b :: t, h0, h1 =>
    simp at h0 h1
    exact ⟨t, by rw [h0, h1]⟩
theorem own_one (o : ByteArray) (h : 0 < o.size) : ∃ t, o.data.toList = o[0] :: t := by
  have h0 := own_get o 0 h
  generalize o.data.toList = l at *
  match l, h0 with
  | a :: t, h0 =>
    simp at h0
    exact ⟨t, by rw [h0]⟩
theorem ownB_16 (o : ByteArray) (h : 1 < o.size) (h0 : o[0] = 35) (h1 : o[1] = 120 ∨ o[1] = 88) : M2.ownB o.data.toList = M2.numR 16 6 (o.extract 2 o.size).data.toList := by
  obtain ⟨t, ht⟩ := own_two o h
  rw [extract_end, ht, M2.ownB, if_pos]
  rw [h0]
  rcases h1 with h1 | h1
  · left; rw [h1]; rfl
  · right; rw [h1]; rfl
theorem ownB_10 (o : ByteArray) (h : 1 < o.size) (h0 : o[0] = 35) (h1 : ¬ o[1] = 120) (h2 : ¬ o[1] = 88) : M2.ownB o.data.toList = M2.numR 10 7 (o.extract 1 o.size).data.toList := by
  obtain ⟨t, ht⟩ := own_two o h
  rw [extract_end, ht, M2.ownB, if_neg, if_pos]
  · rw [h0]; rfl
  · simp [h1, h2]
theorem ownB_10' (o : ByteArray) (h : o.size = 1) (h0 : o[0] = 35) : M2.ownB o.data.toList = M2.numR 10 7 (o.extract 1 o.size).data.toList := by
  obtain ⟨t, ht⟩ := own_one o (by omega)
  have hl := own_list o
  rw [ht] at hl
  have : t = [] := List.eq_nil_of_length_eq_zero (by simp at hl; omega)
  subst this
  rw [extract_end, ht, M2.ownB, if_neg (by simp), if_pos]
  rw [h0]; rfl
theorem ownB_nm (o : ByteArray) (h : 0 < o.size) (h0 : ¬ o[0] = 35) : M2.ownB o.data.toList = (M2.nm o.data.toList).map Int.ofNat := by
  obtain ⟨t, ht⟩ := own_one o h
  rw [ht, M2.ownB, if_neg, if_neg]
  · simp [h0]
  · cases t <;> simp [h0]
theorem ownB_nm0 (o : ByteArray) (h : o.size = 0) : M2.ownB o.data.toList = (M2.nm o.data.toList).map Int.ofNat := by
  have : o.data.toList = [] := List.eq_nil_of_length_eq_zero h
  rw [this]
  rfl
theorem byte_of {c : UInt8} {n : Nat} (h : (c.toNat : Int) = n) (hn : n < 256) : c = n.toUInt8 := by
  apply UInt8.toNat_inj.1
  rw [M1.toNat_u8 n hn]
  omega
theorem byte_no {c : UInt8} {n : Nat} (h : ¬ (c.toNat : Int) = n) (hn : n < 256) : ¬ c = n.toUInt8 := by
  rintro rfl
  rw [M1.toNat_u8 n hn] at h
  exact h rfl
def resI (k : Nat) : Option Int → Value
  | none => .tuple #[.int .i64 0, .int .i64 0]
  | some r => .tuple #[.int .i64 r, .int .i64 ((k : Int) + 1)]
set_option maxHeartbeats 8000000 in
set_option maxRecDepth 100000 in
theorem ref02One (s : ByteArray) (w : World) (hs : s.size ≤ 1073741824) :
    Calls Tryz.prog 85 #[.string s] w fun e w' => e = .returned (ansI (M2.one s.data.toList)) ∧ Below w.heap.size w w' := by
  have hsz : s.data.toList.length = s.size := rfl
  by_cases h0 : s.size = 0
  · have hl : s.data.toList = [] := List.eq_nil_of_length_eq_zero (hsz.trans h0)
    rw [hl, M2.one_not _ (by simp), ansI_none]
    clear hl hsz
    go_enter Tryz.func85, Tryz.ntmps85
    go_wp2
    go_ret2
    exact ⟨rfl, Below.refl _ _⟩
  have hpos : 0 < s.size := by omega
  have h0b : ((s.size : Int) == 0) = false := beq_eq_false_iff_ne.2 (by omega)
  have hgt : s.data.toList[0]? = some s[0] := List.getElem?_eq_getElem (l := s.data.toList) hpos
  by_cases h38 : s[0] = 38
  · obtain ⟨t, ht⟩ : ∃ t, s.data.toList = 38 :: t := by
      cases hl : s.data.toList with
      | nil => rw [hl] at hgt; simp at hgt
      | cons c t => rw [hl] at hgt; simp at hgt; rw [hgt, h38]; exact ⟨t, rfl⟩
    generalize hA : M2.one s.data.toList = A
    rw [ht] at hA
    replace hA := Lib.hid hA
    replace ht := Lib.hid ht
    clear h0 hgt hsz
    go_enter Tryz.func85, Tryz.ntmps85
    go_wp2
    go_loop [4] (fun i => ∃ k : Nat, 1 ≤ k ∧ k ≤ s.size ∧ i = .int .i64 k ∧ Hid ((59 : UInt8) ∉ t.take (k - 1))) (fun i => s.size - (intOf i).toNat)
    case atStart => exact ⟨1, by omega, by omega, rfl, by show _ ∉ _; simp⟩
    case round =>
      obtain ⟨k, hk1, hk, rfl, hno⟩ := hrel
      by_cases hlt : k < s.size
      · have hget : s.data.toList[k]? = some s[k] := List.getElem?_eq_getElem (l := s.data.toList) hlt
        have htk : t[k - 1]? = some s[k] := by
          rw [ht.out] at hget
          obtain ⟨j, rfl⟩ : ∃ j, k = j + 1 := ⟨k - 1, by omega⟩
          simpa using hget
        clear hget
        by_cases h59 : s[k] = 59
        · rw [h59] at htk
          have hox : (s.extract 1 k).data.toList = t.take (k - 1) := by
            rw [Lib.extract_data, ht.out]
            simp
          have htt : t = t.take (k - 1) ++ 59 :: t.drop (k - 1 + 1) := by
            obtain ⟨h1, h2⟩ := List.getElem?_eq_some_iff.1 htk
            conv => lhs; rw [← List.take_append_drop (k - 1) t, List.drop_eq_getElem_cons h1, h2]
          have hlen : (t.take (k - 1)).length = k - 1 := by
            obtain ⟨h1, h2⟩ := List.getElem?_eq_some_iff.1 htk
            rw [List.length_take]; omega
          have hone := M2.one_own (t.take (k - 1)) (t.drop (k - 1 + 1)) hno.out
          rw [← htt, hA.out, hlen, ← hox] at hone
          have hosz : (s.extract 1 k).size = k - 1 := by rw [ByteArray.size_extract]; omega
          replace hone := Lib.hid hone
          replace hox := Lib.hid hox
          replace hosz := Lib.hid hosz
          clear htt hlen hA htk hno ht
          have hres : ansI A = resI k (M2.ownB (s.extract 1 k).data.toList) := by
            rw [hone.out]
            cases M2.ownB (s.extract 1 k).data.toList with
            | none => rfl
            | some r => simp [ansI, resI]; omega
          replace hres := Lib.hid hres
          clear hone
          have h59c : (s[k].toNat : Int) = 59 := by rw [h59]; rfl
          clear h59
          go_wp2_with fail
          · have hres := hres.out
            have hz := hosz.out
            have hB := ownB_16 (s.extract 1 k) (by omega) (byte_of (n := 35) (by first | assumption | (simpa using (by assumption : ((((s.extract 1 k)[0]'(by omega)).toNat : Int) == 35) = true))) (by decide)) (Or.inl (byte_of (n := 120) (by first | assumption | (simpa using (by assumption : ((((s.extract 1 k)[1]'(by omega)).toNat : Int) == 120) = true))) (by decide)))
            clear hz
            refine (ref02Number ((s.extract 1 k).extract 2 (k - 1)) 16 6 _ (by omega) (by omega) (by omega) (by decide) (by rw [ByteArray.size_extract]; omega)).mono ?_
            rintro e w2 ⟨rfl, rfl⟩
            rw [hB, hosz.out] at hres
            generalize M2.numR 16 6 ((s.extract 1 k).extract 2 (k - 1)).data.toList = B at *
            clear hB
            replace hres := Lib.hid hres
            cases B with
            | none =>
              rw [ansB_none]
              go_wp2
              go_ret2
              rw [hres.out]
              exact ⟨rfl, Below.refl _ _⟩
            | some r =>
              rw [ansB_some]
              go_wp2
              go_ret2
              rw [hres.out]
              exact ⟨rfl, Below.refl _ _⟩
          · have hres := hres.out
            have hz := hosz.out
            have hB := ownB_16 (s.extract 1 k) (by omega) (byte_of (n := 35) (by first | assumption | (simpa using (by assumption : ((((s.extract 1 k)[0]'(by omega)).toNat : Int) == 35) = true))) (by decide)) (Or.inr (byte_of (n := 88) (by have h1 : ¬ (((s.extract 1 k)[1]'(by omega)).toNat : Int) = 120 := (by assumption); have h2 : ((((s.extract 1 k)[1]'(by omega)).toNat : Int) == 120) = true ∨ ((((s.extract 1 k)[1]'(by omega)).toNat : Int) == 88) = true := (by assumption); simpa [h1] using h2) (by decide)))
            clear hz
            refine (ref02Number ((s.extract 1 k).extract 2 (k - 1)) 16 6 _ (by omega) (by omega) (by omega) (by decide) (by rw [ByteArray.size_extract]; omega)).mono ?_
            rintro e w2 ⟨rfl, rfl⟩
            rw [hB, hosz.out] at hres
            generalize M2.numR 16 6 ((s.extract 1 k).extract 2 (k - 1)).data.toList = B at *
            clear hB
            replace hres := Lib.hid hres
            cases B with
            | none =>
              rw [ansB_none]
              go_wp2
              go_ret2
              rw [hres.out]
              exact ⟨rfl, Below.refl _ _⟩
            | some r =>
              rw [ansB_some]
              go_wp2
              go_ret2
              rw [hres.out]
              exact ⟨rfl, Below.refl _ _⟩
          · have hres := hres.out
            have hz := hosz.out
            have hB := ownB_10 (s.extract 1 k) (by omega) (byte_of (n := 35) (by first | assumption | (simpa using (by assumption : ((((s.extract 1 k)[0]'(by omega)).toNat : Int) == 35) = true))) (by decide)) (byte_no (n := 120) (by assumption) (by decide)) (byte_no (n := 88) (by have h2 : ((((s.extract 1 k)[1]'(by omega)).toNat : Int) == 120) = false ∧ ((((s.extract 1 k)[1]'(by omega)).toNat : Int) == 88) = false := (by assumption); simpa using h2.2) (by decide))
            clear hz
            refine (ref02Number ((s.extract 1 k).extract 1 (k - 1)) 10 7 _ (by omega) (by omega) (by omega) (by decide) (by rw [ByteArray.size_extract]; omega)).mono ?_
            rintro e w2 ⟨rfl, rfl⟩
            rw [hB, hosz.out] at hres
            generalize M2.numR 10 7 ((s.extract 1 k).extract 1 (k - 1)).data.toList = B at *
            clear hB
            replace hres := Lib.hid hres
            cases B with
            | none =>
              rw [ansB_none]
              go_wp2
              go_ret2
              rw [hres.out]
              exact ⟨rfl, Below.refl _ _⟩
            | some r =>
              rw [ansB_some]
              go_wp2
              go_ret2
              rw [hres.out]
              exact ⟨rfl, Below.refl _ _⟩
          · have hres := hres.out
            have hz := hosz.out
            have hB := ownB_nm (s.extract 1 k) (by omega) (byte_no (n := 35) (by first | assumption | (simpa using (by assumption : ((((s.extract 1 k)[0]'(by omega)).toNat : Int) == 35) = false))) (by decide))
            clear hz
            refine (ref02Name' (s.extract 1 k) _).mono ?_
            rintro e w2 ⟨rfl, b2⟩
            rw [hB] at hres
            generalize (M2.nm (s.extract 1 k).data.toList).map Int.ofNat = B at *
            clear hB
            replace hres := Lib.hid hres
            cases B with
            | none =>
              rw [ansB_none]
              go_wp2
              go_ret2
              rw [hres.out]
              exact ⟨rfl, b2⟩
            | some r =>
              rw [ansB_some]
              go_wp2
              go_ret2
              rw [hres.out]
              exact ⟨rfl, b2⟩
          · have hres := hres.out
            have hz := hosz.out
            have hB := ownB_10' (s.extract 1 k) (by omega) (byte_of (n := 35) (by first | assumption | (simpa using (by assumption : ((((s.extract 1 k)[0]'(by omega)).toNat : Int) == 35) = true))) (by decide))
            clear hz
            refine (ref02Number ((s.extract 1 k).extract 1 (k - 1)) 10 7 _ (by omega) (by omega) (by omega) (by decide) (by rw [ByteArray.size_extract]; omega)).mono ?_
            rintro e w2 ⟨rfl, rfl⟩
            rw [hB, hosz.out] at hres
            generalize M2.numR 10 7 ((s.extract 1 k).extract 1 (k - 1)).data.toList = B at *
            clear hB
            replace hres := Lib.hid hres
            cases B with
            | none =>
              rw [ansB_none]
              go_wp2
              go_ret2
              rw [hres.out]
              exact ⟨rfl, Below.refl _ _⟩
            | some r =>
              rw [ansB_some]
              go_wp2
              go_ret2
              rw [hres.out]
              exact ⟨rfl, Below.refl _ _⟩
          · have hres := hres.out
            have hz := hosz.out
            have hB := ownB_nm (s.extract 1 k) (by omega) (byte_no (n := 35) (by first | assumption | (simpa using (by assumption : ((((s.extract 1 k)[0]'(by omega)).toNat : Int) == 35) = false))) (by decide))
            clear hz
            refine (ref02Name' (s.extract 1 k) _).mono ?_
            rintro e w2 ⟨rfl, b2⟩
            rw [hB] at hres
            generalize (M2.nm (s.extract 1 k).data.toList).map Int.ofNat = B at *
            clear hB
            replace hres := Lib.hid hres
            cases B with
            | none =>
              rw [ansB_none]
              go_wp2
              go_ret2
              rw [hres.out]
              exact ⟨rfl, b2⟩
            | some r =>
              rw [ansB_some]
              go_wp2
              go_ret2
              rw [hres.out]
              exact ⟨rfl, b2⟩
          · have hres := hres.out
            have hz := hosz.out
            have hB := ownB_nm0 (s.extract 1 k) (by omega)
            clear hz
            refine (ref02Name' (s.extract 1 k) _).mono ?_
            rintro e w2 ⟨rfl, b2⟩
            rw [hB] at hres
            generalize (M2.nm (s.extract 1 k).data.toList).map Int.ofNat = B at *
            clear hB
            replace hres := Lib.hid hres
            cases B with
            | none =>
              rw [ansB_none]
              go_wp2
              go_ret2
              rw [hres.out]
              exact ⟨rfl, b2⟩
            | some r =>
              rw [ansB_some]
              go_wp2
              go_ret2
              rw [hres.out]
              exact ⟨rfl, b2⟩
        · have hne := ne_byte h59
          have hne' : ((s[k].toNat : Int) != 59) = true := by
            have : ((s[k].toNat : Int) == 59) = false := hne
            simpa [bne] using this
          have hno2 : Hid ((59 : UInt8) ∉ t.take (k + 1 - 1)) := by
            show _ ∉ _
            obtain ⟨j, rfl⟩ : ∃ j, k = j + 1 := ⟨k - 1, by omega⟩
            intro hm
            have h1 := hno.out
            simp only [Nat.add_sub_cancel] at hm h1 htk
            obtain ⟨h2, h3⟩ := List.getElem?_eq_some_iff.1 htk
            rw [List.take_succ_eq_append_getElem h2, h3] at hm
            rcases List.mem_append.1 hm with hm | hm
            · exact h1 hm
            · simp at hm; exact h59 hm.symm
          clear htk h59 hne hno
          go_wp2
          go_round
          case rel => exact ⟨k + 1, by omega, by omega, by go_num, hno2⟩
          case measure => simp [intOf]; omega
      · obtain rfl : k = s.size := by omega
        have hA0 : A = none := by
          rw [← hA.out]
          refine M2.one_none t ?_
          have h1 := hno.out
          have h2 : t.length + 1 = s.size := by
            have : s.data.toList.length = s.size := rfl
            rw [ht.out] at this
            simpa using this
          rwa [List.take_of_length_le (by omega)] at h1
        replace hA0 := Lib.hid hA0
        clear hno hA hlt
        go_wp2
        go_ret2
        rw [hA0.out, ansI_none]
        exact ⟨rfl, Below.refl _ _⟩
  · have hb := ne_byte h38
    have hb' : ((s[0].toNat : Int) != 38) = true := by
      have : ((s[0].toNat : Int) == 38) = false := hb
      simpa [bne] using this
    rw [M2.one_not _ (by rw [List.head?_eq_getElem?, hgt]; simpa using h38), ansI_none]
    clear hgt h38 hsz h0 hb
    go_enter Tryz.func85, Tryz.ntmps85
    go_wp2
    go_ret2
    exact ⟨rfl, Below.refl _ _⟩
end Go.Proofs.YteefodibpjgicaaGreat

namespace Go.Proofs.YteefodibpjgicaaGreat
open Go.RowKit
theorem cat_mk (a : List UInt8) (b : ByteArray) : (⟨a.toArray⟩ : ByteArray) ++ b = ⟨(a ++ b.data.toList).toArray⟩ := by
  apply ByteArray.ext
  simp
theorem str_val {a b : ByteArray} (h : a = b) : Value.string a = .string b := by rw [h]
theorem dec_step (l : List UInt8) (k : Nat) (h : k < l.length) : M2.decode (l.drop k) = match M2.one (l.drop k) with | none => l[k] :: M2.decode (l.drop (k + 1)) | some p => M1.enc p.1 ++ M2.decode (l.drop (k + p.2)) := by
  cases ho : M2.one (l.drop k) with
  | none =>
    have e : l.drop k = l[k] :: l.drop (k + 1) := List.drop_eq_getElem_cons h
    rw [e] at ho ⊢
    exact M2.decode_byte ho
  | some p =>
    obtain ⟨r, n⟩ := p
    rw [M2.decode_ref ho, List.drop_drop]
set_option maxHeartbeats 4000000 in
set_option maxRecDepth 100000 in
theorem ref02Decode (s : ByteArray) (w : World) (hs : s.size ≤ 1073741824) :
    Calls Tryz.prog 67 #[.string s] w fun e w' => e = .returned (.string ⟨(M2.decode s.data.toList).toArray⟩) ∧ Below w.heap.size w w' := by
  have hfr := fun (r : Int) (wr : World) => Sl.fresh' wr 21 [.int .i32 r] 1 rfl (by omega)
  have hbl := fun (wr : World) (o : Obj) => (Below.refl wr.heap.size wr).alloc (Nat.le_refl _) o
  replace hfr := Lib.hid hfr
  replace hbl := Lib.hid hbl
  generalize hD : M2.decode s.data.toList = D
  replace hD := Lib.hid hD
  go_enter Tryz.func67, Tryz.ntmps67
  go_wp2
  go_loopw [3, 4] (fun o i wr => ∃ (k : Nat) (acc : List UInt8), k ≤ s.size ∧ i = .int .i64 k ∧ o = .string ⟨acc.toArray⟩ ∧ acc.length ≤ 4 * k ∧ Below w.heap.size w wr ∧ Hid (D = acc ++ M2.decode (s.data.toList.drop k))) (fun _ i _ => s.size - (intOf i).toNat)
  case atStart => exact ⟨0, [], by omega, rfl, rfl, by simp, Below.refl _ _, hD.out.symm⟩
  case round =>
    obtain ⟨k, acc, hk, rfl, rfl, hal, hbw, hacc⟩ := hrel
    by_cases hlt : k < s.size
    · have hst := dec_step s.data.toList k hlt
      have hx : (s.extract k s.size).data.toList = s.data.toList.drop k := extract_end s k
      have hz : (s.extract k s.size).size ≤ 1073741824 := by rw [ByteArray.size_extract]; omega
      have hO := ref02One (s.extract k s.size) wr hz
      rw [hx] at hO
      have hbd := fun r n => M2.one_bd (l := s.data.toList.drop k) (r := r) (n := n)
      rw [List.length_drop, show s.data.toList.length = s.size from rfl] at hbd
      generalize M2.one (s.data.toList.drop k) = R at *
      have hx1 : (s.extract k (k + 1)).data.toList = [s[k]] := by
        rw [Lib.extract_data, show s.data.toList.drop k = s[k] :: s.data.toList.drop (k + 1) from List.drop_eq_getElem_cons hlt]
        simp
      replace hO := Lib.hid hO
      replace hx1 := Lib.hid hx1
      clear hx hz
      cases R with
      | none =>
        have hacc2 : Hid (D = (acc ++ (s.extract k (k + 1)).data.toList) ++ M2.decode (s.data.toList.drop (k + 1))) := by
          show _ = _
          rw [hacc.out, hst, hx1.out]
          simp only [List.append_assoc, List.singleton_append]
          rfl
        have hal2 : (acc ++ (s.extract k (k + 1)).data.toList).length ≤ 4 * (k + 1) := by
          rw [hx1.out]; simp; omega
        clear hst hbd hacc hx1
        rw [ansI_none] at hO
        go_wp2_with fail
        refine hO.out.mono ?_
        rintro e w2 ⟨rfl, b2⟩
        go_wp2
        go_roundw
        case rel => exact ⟨k + 1, _, by omega, by go_num, str_val (cat_mk _ _), hal2, bt hbw b2, hacc2⟩
        case measure => simp [intOf]; omega
      | some p =>
        obtain ⟨r, n⟩ := p
        obtain ⟨hn2, hnl, hok, _, _⟩ := hbd r n rfl
        have hrr : 0 ≤ r ∧ r ≤ 1114111 := by unfold M1.okRune at hok; omega
        obtain ⟨hr0, hr1⟩ := hrr
        have hel := M2.enc_len_le r
        have htx : M1.text [r] = M1.enc r := by simp [M1.text]
        have hacc2 : Hid (D = (acc ++ M1.text [r]) ++ M2.decode (s.data.toList.drop (k + n))) := by
          show _ = _
          rw [hacc.out, hst, htx, List.append_assoc]
        have hal2 : (acc ++ M1.text [r]).length ≤ 4 * (k + n) := by
          rw [List.length_append, htx]; omega
        have htl : (M1.text [r]).length ≤ 4 := by rw [htx]; exact hel.1
        clear hst hbd hacc hx1 hok htx
        rw [ansI_some] at hO
        have hn0 : ((n : Int) == 0) = false := beq_eq_false_iff_ne.2 (by omega)
        go_wp2_with fail
        refine hO.out.mono ?_
        rintro e w2 ⟨rfl, b2⟩
        go_wp2_with fail
        refine (ref01Text _ [r] _ (hfr.out r w2) (by intro x hx; simp at hx; omega) (by simp)).mono ?_
        rintro e w3 ⟨rfl, b3⟩
        have B3 := bt (bt hbw b2) (bt (hbl.out w2 _) b3)
        go_wp2
        go_roundw
        case rel => exact ⟨k + n, _, by omega, by go_num, str_val (cat_mk _ _), hal2, B3, hacc2⟩
        case measure => simp [intOf]; omega
    · obtain rfl : k = s.size := by omega
      have h := hacc.out
      rw [show s.data.toList.drop s.size = [] from List.drop_of_length_le (Nat.le_refl _), M2.decode_nil, List.append_nil] at h
      replace h := Lib.hid h
      clear hacc hlt
      go_wp2
      go_ret
      rw [h.out]
      exact ⟨rfl, hbw⟩
set_option maxHeartbeats 4000000 in
set_option maxRecDepth 100000 in
theorem ref02Escape (s : ByteArray) (v : Bool) (w : World) (hs : s.size ≤ 1073741824) :
    Calls Tryz.prog 61 #[.string s, .bool v] w fun e w' => e = .returned (.string ⟨(M2.escape v s.data.toList).toArray⟩) ∧ w' = w := by
  go_enter Tryz.func61, Tryz.ntmps61
  go_wp2
  go_loop [5, 6] (fun o i => ∃ k : Nat, k ≤ s.size ∧ i = .int .i64 k ∧ o = .string ⟨(M2.escape v (s.data.toList.take k)).toArray⟩) (fun _ i => s.size - (intOf i).toNat)
  case atStart => exact ⟨0, by omega, rfl, rfl⟩
  case round =>
    obtain ⟨k, hk, rfl, rfl⟩ := hrel
    by_cases hlt : k < s.size
    · have htk : M2.escape v (s.data.toList.take (k + 1)) = M2.escape v (s.data.toList.take k) ++ M2.esc v s[k] := by
        rw [show s.data.toList.take (k + 1) = s.data.toList.take k ++ [s[k]] from List.take_succ_eq_append_getElem (l := s.data.toList) hlt, M2.escape_append]
        simp [M2.escape]
      have hx1 : (s.extract k (k + 1)).data.toList = [s[k]] := by
        rw [Lib.extract_data, show s.data.toList.drop k = s[k] :: s.data.toList.drop (k + 1) from List.drop_eq_getElem_cons hlt]
        simp
      have hlen := M2.escape_len v (s.data.toList.take k)
      have hle1 : (s.data.toList.take k).length ≤ k := List.length_take_le _ _
      have fin : ∀ (add : ByteArray), M2.esc v s[k] = add.data.toList → (⟨(M2.escape v (s.data.toList.take k)).toArray⟩ : ByteArray) ++ add = ⟨(M2.escape v (s.data.toList.take (k + 1))).toArray⟩ := by
        intro add h
        rw [htk, h, cat_mk]
      replace fin := Lib.hid fin
      clear htk
      by_cases h38 : s[k] = 38
      · have F := Lib.hid (fin.out ⟨#[38, 97, 109, 112, 59]⟩ (by rw [h38]; rfl))
        clear fin hx1
        go_wp2
        go_round
        case rel => exact ⟨k + 1, by omega, by go_num, str_val F.out⟩
        case measure => simp [intOf]; omega
      have h38b : ((s[k].toNat : Int) == 38) = false := ne_byte (d := 38) h38
      by_cases h60 : s[k] = 60
      · have F := Lib.hid (fin.out ⟨#[38, 108, 116, 59]⟩ (by rw [h60]; rfl))
        clear fin hx1 h38
        go_wp2
        go_round
        case rel => exact ⟨k + 1, by omega, by go_num, str_val F.out⟩
        case measure => simp [intOf]; omega
      have h60b : ((s[k].toNat : Int) == 60) = false := ne_byte (d := 60) h60
      by_cases h62 : s[k] = 62
      · have F := Lib.hid (fin.out ⟨#[38, 103, 116, 59]⟩ (by rw [h62]; rfl))
        clear fin hx1 h38 h60
        go_wp2
        go_round
        case rel => exact ⟨k + 1, by omega, by go_num, str_val F.out⟩
        case measure => simp [intOf]; omega
      have h62b : ((s[k].toNat : Int) == 62) = false := ne_byte (d := 62) h62
      by_cases h34 : s[k] = 34
      · cases v
        · have F := Lib.hid (fin.out (s.extract k (k + 1)) (by rw [hx1, h34]; rfl))
          clear fin hx1 h38 h60 h62
          go_wp2
          go_round
          case rel => exact ⟨k + 1, by omega, by go_num, str_val F.out⟩
          case measure => simp [intOf]; omega
        · have F := Lib.hid (fin.out ⟨#[38, 113, 117, 111, 116, 59]⟩ (by rw [h34]; rfl))
          clear fin hx1 h38 h60 h62
          go_wp2
          go_round
          case rel => exact ⟨k + 1, by omega, by go_num, str_val F.out⟩
          case measure => simp [intOf]; omega
      have h34b : ((s[k].toNat : Int) == 34) = false := ne_byte (d := 34) h34
      have F := Lib.hid (fin.out (s.extract k (k + 1)) (by rw [hx1, M2.esc, if_neg h38, if_neg h60, if_neg h62, if_neg (fun e => h34 e.1)]))
      clear fin hx1 h38 h60 h62 h34
      go_wp2
      go_round
      case rel => exact ⟨k + 1, by omega, by go_num, str_val F.out⟩
      case measure => simp [intOf]; omega
    · obtain rfl : k = s.size := by omega
      have ht : s.data.toList.take s.size = s.data.toList := List.take_of_length_le (Nat.le_refl _)
      replace ht := Lib.hid ht
      clear hlt
      go_wp2
      go_ret
      rw [ht.out]
      exact ⟨rfl, rfl⟩
end Go.Proofs.YteefodibpjgicaaGreat

namespace Go.Proofs.YteefodibpjgicaaGreat
open Go.RowKit
def cellsA (l : List Att) : List Value := l.flatMap fun a => [.string a.name, .string a.value]
theorem cellsA_append (a b : List Att) : cellsA (a ++ b) = cellsA a ++ cellsA b := by simp [cellsA]
theorem cellsA_cons (a : Att) (l : List Att) : cellsA (a :: l) = .string a.name :: .string a.value :: cellsA l := rfl
theorem cellsA_one (l : List Att) : ∀ u ∈ cellsA l, u.oneCell' = true := by
  intro u hu
  obtain ⟨a, _, h⟩ := List.mem_flatMap.1 hu
  simp at h
  rcases h with rfl | rfl <;> rfl
theorem cellsA_at (l : List Att) (i : Nat) (h : i < l.length) : (cellsA l)[i * 2]? = some (.string l[i].name) ∧ (cellsA l)[i * 2 + 1]? = some (.string l[i].value) := by
  induction l generalizing i with
  | nil => simp at h
  | cons a r ih =>
    cases i with
    | zero => simp [cellsA_cons]
    | succ i =>
      have := ih i (by simpa using h)
      rw [cellsA_cons, show (i + 1) * 2 = i * 2 + 1 + 1 by omega]
      simpa using this
def Row (S : Nat → Prop) (w : World) (k : Nat) (v : Value) (n : Nat) (xs : List Value) : Prop :=
  xs.length = n * k ∧ ∃ (a : Option Addr) (cap : Nat), v = .slice a n cap ∧ n ≤ cap ∧ cap ≤ 9223372036854775807 ∧ (a = none → cap = 0) ∧
    (0 < n → ∃ b off, a = some ⟨b, off, none⟩ ∧ S b ∧ ∀ j u, xs[j]? = some u → w.cell? ⟨b, off + j, none⟩ = some u)
theorem Row.nil (S : Nat → Prop) (w : World) (k : Nat) : Row S w k (.slice none 0 0) 0 [] := ⟨by simp, none, 0, rfl, Nat.le_refl _, by omega, fun _ => rfl, fun h => absurd h (by omega)⟩
theorem Row.keep {S : Nat → Prop} {w w' : World} {k n : Nat} {v : Value} {xs : List Value} (h : Row S w k v n xs) (hk : ∀ b, S b → w'.heap[b]? = w.heap[b]?) : Row S w' k v n xs := by
  obtain ⟨h0, a, cap, h1, h2, h3, h4, h5⟩ := h
  refine ⟨h0, a, cap, h1, h2, h3, h4, fun hn => ?_⟩
  obtain ⟨b, off, h6, h7, h8⟩ := h5 hn
  exact ⟨b, off, h6, h7, fun j u hu => (World.cell?_of_block (a := ⟨b, off + j, none⟩) (hk b h7)).trans (h8 j u hu)⟩
theorem Row.mono {S S' : Nat → Prop} {w : World} {k n : Nat} {v : Value} {xs : List Value} (h : Row S w k v n xs) (hs : ∀ b, S b → S' b) : Row S' w k v n xs := by
  obtain ⟨h0, a, cap, h1, h2, h3, h4, h5⟩ := h
  refine ⟨h0, a, cap, h1, h2, h3, h4, fun hn => ?_⟩
  obtain ⟨b, off, h6, h7, h8⟩ := h5 hn
  exact ⟨b, off, h6, hs b h7, h8⟩
theorem Row.slice {S : Nat → Prop} {w : World} {k n : Nat} {v : Value} {xs : List Value} (h : Row S w k v n xs) : ∃ a cap, v = .slice a n cap := by
  obtain ⟨_, a, cap, h1, _⟩ := h
  exact ⟨a, cap, h1⟩
theorem Row.own {w : World} {B : Nat} {e : TypeId} {k n : Nat} {v : Value} {xs : List Value} (h : w.ownsRow B e k v n xs) {S : Nat → Prop} (hs : ∀ g, v.ownBlock = some g → S g) : Row S w k v n xs := by
  refine ⟨h.1, ?_⟩
  have hc := fun g hg => h.cells (g := g) hg
  rcases h.2 with ⟨rfl, rfl⟩ | ⟨g, cap, cur, rfl, _, hg, h1, h2, h3, h4⟩
  · exact ⟨none, 0, rfl, Nat.le_refl _, by omega, fun _ => rfl, fun h => absurd h (by omega)⟩
  · unfold maxLen at h2
    refine ⟨some ⟨g, 0, none⟩, cap, rfl, h1, by omega, (fun h => by cases h), fun _ => ⟨g, 0, rfl, hs g rfl, fun j u hu => ?_⟩⟩
    have h5 := hc g rfl j u hu
    rwa [add_plain'] at h5
def RepC (S : Nat → Prop) (w : World) : List Value → List Nd → Prop
  | xs, [] => xs = []
  | xs, .mk k n ats t ks :: r => ∃ va vk zs ys, xs = .int .i64 k :: .string n :: va :: .string t :: vk :: ys ∧ Row S w 2 va ats.length (cellsA ats) ∧ Row S w 5 vk ks.length zs ∧ RepC S w zs ks ∧ RepC S w ys r
termination_by _ l => SizeOf.sizeOf l
def RepN (S : Nat → Prop) (w : World) (v : Value) (l : List Nd) : Prop := ∃ xs, Row S w 5 v l.length xs ∧ RepC S w xs l
theorem RepC.nil (S : Nat → Prop) (w : World) : RepC S w [] [] := by rw [RepC]
theorem RepC.cons_iff {S : Nat → Prop} {w : World} {xs : List Value} {k : Int} {n : ByteArray} {ats : List Att} {t : ByteArray} {ks r : List Nd} :
    RepC S w xs (.mk k n ats t ks :: r) ↔ ∃ va vk ys, xs = .int .i64 k :: .string n :: va :: .string t :: vk :: ys ∧ Row S w 2 va ats.length (cellsA ats) ∧ RepN S w vk ks ∧ RepC S w ys r := by
  rw [RepC]
  constructor
  · rintro ⟨va, vk, zs, ys, h1, h2, h3, h4, h5⟩; exact ⟨va, vk, ys, h1, h2, ⟨zs, h3, h4⟩, h5⟩
  · rintro ⟨va, vk, ys, h1, h2, ⟨zs, h3, h4⟩, h5⟩; exact ⟨va, vk, zs, ys, h1, h2, h3, h4, h5⟩
theorem RepN.nil (S : Nat → Prop) (w : World) : RepN S w (.slice none 0 0) [] := ⟨[], Row.nil S w 5, RepC.nil S w⟩
theorem RepC.keep {S : Nat → Prop} {w w' : World} (hk : ∀ b, S b → w'.heap[b]? = w.heap[b]?) : ∀ (l : List Nd) (xs : List Value), RepC S w xs l → RepC S w' xs l := by
  intro l
  induction l using Nd.ind with
  | h0 => intro xs h; rw [RepC] at h ⊢; exact h
  | h1 k n ats t ks r ih1 ih2 =>
    intro xs h
    obtain ⟨va, vk, ys, h1, h2, ⟨zs, h3, h4⟩, h5⟩ := RepC.cons_iff.1 h
    exact RepC.cons_iff.2 ⟨va, vk, ys, h1, h2.keep hk, ⟨zs, h3.keep hk, ih1 _ h4⟩, ih2 _ h5⟩
theorem RepC.mono {S S' : Nat → Prop} {w : World} (hs : ∀ b, S b → S' b) : ∀ (l : List Nd) (xs : List Value), RepC S w xs l → RepC S' w xs l := by
  intro l
  induction l using Nd.ind with
  | h0 => intro xs h; rw [RepC] at h ⊢; exact h
  | h1 k n ats t ks r ih1 ih2 =>
    intro xs h
    obtain ⟨va, vk, ys, h1, h2, ⟨zs, h3, h4⟩, h5⟩ := RepC.cons_iff.1 h
    exact RepC.cons_iff.2 ⟨va, vk, ys, h1, h2.mono hs, ⟨zs, h3.mono hs, ih1 _ h4⟩, ih2 _ h5⟩
theorem RepN.keep {S : Nat → Prop} {w w' : World} {v : Value} {l : List Nd} (h : RepN S w v l) (hk : ∀ b, S b → w'.heap[b]? = w.heap[b]?) : RepN S w' v l := by
  obtain ⟨xs, h1, h2⟩ := h
  exact ⟨xs, h1.keep hk, RepC.keep hk _ _ h2⟩
theorem RepN.mono {S S' : Nat → Prop} {w : World} {v : Value} {l : List Nd} (h : RepN S w v l) (hs : ∀ b, S b → S' b) : RepN S' w v l := by
  obtain ⟨xs, h1, h2⟩ := h
  exact ⟨xs, h1.mono hs, RepC.mono hs _ _ h2⟩
theorem RepC.append {S : Nat → Prop} {w : World} {m : List Nd} {ys : List Value} (h : RepC S w ys m) : ∀ (l : List Nd) (xs : List Value), RepC S w xs l → RepC S w (xs ++ ys) (l ++ m) := by
  intro l
  induction l using Nd.ind with
  | h0 => intro xs h'; rw [RepC] at h'; subst h'; exact h
  | h1 k n ats t ks r _ ih2 =>
    intro xs h'
    obtain ⟨va, vk, zs, rfl, h2, h3, h5⟩ := RepC.cons_iff.1 h'
    exact RepC.cons_iff.2 ⟨va, vk, zs ++ ys, rfl, h2, h3, ih2 _ h5⟩
theorem RepC.drop {S : Nat → Prop} {w : World} : ∀ (l : List Nd) (xs : List Value) (i : Nat), RepC S w xs l → RepC S w (xs.drop (i * 5)) (l.drop i) := by
  intro l
  induction l using Nd.ind with
  | h0 => intro xs i h; rw [RepC] at h; subst h; simp [RepC.nil]
  | h1 k n ats t ks r _ ih2 =>
    intro xs i h
    cases i with
    | zero => simpa using h
    | succ i =>
      obtain ⟨va, vk, ys, rfl, _, _, h5⟩ := RepC.cons_iff.1 h
      rw [show (i + 1) * 5 = i * 5 + 1 + 1 + 1 + 1 + 1 by omega]
      simpa using ih2 ys i h5
structure RepV (S : Nat → Prop) (w : World) (x : Nd) (va vk : Value) : Prop where
  at_ : Row S w 2 va x.attrs.length (cellsA x.attrs)
  kids : RepN S w vk x.kids
theorem RepV.keep {S : Nat → Prop} {w w' : World} {x : Nd} {va vk : Value} (h : RepV S w x va vk) (hk : ∀ b, S b → w'.heap[b]? = w.heap[b]?) : RepV S w' x va vk := ⟨h.1.keep hk, h.2.keep hk⟩
theorem RepV.mono {S S' : Nat → Prop} {w : World} {x : Nd} {va vk : Value} (h : RepV S w x va vk) (hs : ∀ b, S b → S' b) : RepV S' w x va vk := ⟨h.1.mono hs, h.2.mono hs⟩
abbrev Nd.val (x : Nd) (va vk : Value) : Value := .agg #[.int .i64 x.kind, .string x.name, va, .string x.text, vk]
abbrev Nd.cells (x : Nd) (va vk : Value) : List Value := [.int .i64 x.kind, .string x.name, va, .string x.text, vk]
theorem RepC.single {S : Nat → Prop} {w : World} {x : Nd} {va vk : Value} (h : RepV S w x va vk) : RepC S w (x.cells va vk) [x] := by
  cases x
  exact RepC.cons_iff.2 ⟨va, vk, [], rfl, h.1, h.2, RepC.nil S w⟩
theorem RepC.at_ {S : Nat → Prop} {w : World} {l : List Nd} {xs : List Value} (h : RepC S w xs l) (i : Nat) (hi : i < l.length) :
    ∃ va vk, xs[i * 5]? = some (.int .i64 l[i].kind) ∧ xs[i * 5 + 1]? = some (.string l[i].name) ∧ xs[i * 5 + 2]? = some va ∧ xs[i * 5 + 3]? = some (.string l[i].text) ∧ xs[i * 5 + 4]? = some vk ∧ RepV S w l[i] va vk := by
  have h1 := RepC.drop _ _ i h
  rw [List.drop_eq_getElem_cons hi, Nd.eta l[i]] at h1
  obtain ⟨va, vk, ys, h2, h3, h4, _⟩ := RepC.cons_iff.1 h1
  have h5 : ∀ j, xs[i * 5 + j]? = (xs.drop (i * 5))[j]? := fun j => by rw [List.getElem?_drop]
  refine ⟨va, vk, ?_, ?_, ?_, ?_, ?_, ⟨h3, h4⟩⟩
  · have := h5 0; rw [h2] at this; simpa using this
  · rw [h5, h2]; rfl
  · rw [h5, h2]; rfl
  · rw [h5, h2]; rfl
  · rw [h5, h2]; rfl
theorem RepN.at_ {S : Nat → Prop} {w : World} {a : Option Addr} {n cap : Nat} {l : List Nd} (h : RepN S w (.slice a n cap) l) (i : Nat) (hi : i < l.length) :
    ∃ b off va vk, a = some ⟨b, off, none⟩ ∧ S b ∧ w.cell? ⟨b, off + i * 5, none⟩ = some (.int .i64 l[i].kind) ∧ w.cell? ⟨b, off + i * 5 + 1, none⟩ = some (.string l[i].name) ∧ w.cell? ⟨b, off + i * 5 + 2, none⟩ = some va ∧
      w.cell? ⟨b, off + i * 5 + 3, none⟩ = some (.string l[i].text) ∧ w.cell? ⟨b, off + i * 5 + 4, none⟩ = some vk ∧ RepV S w l[i] va vk := by
  obtain ⟨xs, ⟨h0, a', cap', h1, h2, h3, h4, h5⟩, h6⟩ := h
  cases h1
  obtain ⟨b, off, rfl, h7, h8⟩ := h5 (by omega)
  obtain ⟨va, vk, c0, c1, c2, c3, c4, hv⟩ := h6.at_ i hi
  exact ⟨b, off, va, vk, rfl, h7, h8 _ _ c0, h8 _ _ c1, h8 _ _ c2, h8 _ _ c3, h8 _ _ c4, hv⟩
theorem RepN.len {S : Nat → Prop} {w : World} {a : Option Addr} {n cap : Nat} {l : List Nd} (h : RepN S w (.slice a n cap) l) : n = l.length ∧ n ≤ cap ∧ cap ≤ 9223372036854775807 := by
  obtain ⟨xs, ⟨h0, a', cap', h1, h2, h3, h4, h5⟩, h6⟩ := h
  cases h1
  exact ⟨rfl, h2, h3⟩
theorem RepN.slice {S : Nat → Prop} {w : World} {v : Value} {l : List Nd} (h : RepN S w v l) : ∃ a cap, v = .slice a l.length cap := by
  obtain ⟨xs, h1, h6⟩ := h
  exact h1.slice
theorem Row.atA {S : Nat → Prop} {w : World} {a : Option Addr} {n cap : Nat} {l : List Att} (h : Row S w 2 (.slice a n cap) l.length (cellsA l)) (i : Nat) (hi : i < l.length) :
    ∃ b off, a = some ⟨b, off, none⟩ ∧ S b ∧ w.cell? ⟨b, off + i * 2, none⟩ = some (.string l[i].name) ∧ w.cell? ⟨b, off + i * 2 + 1, none⟩ = some (.string l[i].value) := by
  obtain ⟨h0, a', cap', h1, h2, h3, h4, h5⟩ := h
  cases h1
  obtain ⟨b, off, rfl, h7, h8⟩ := h5 (by omega)
  obtain ⟨c0, c1⟩ := cellsA_at l i hi
  exact ⟨b, off, rfl, h7, h8 _ _ c0, h8 _ _ c1⟩
theorem Row.len {S : Nat → Prop} {w : World} {a : Option Addr} {n m k cap : Nat} {xs : List Value} (h : Row S w k (.slice a n cap) m xs) : n = m ∧ n ≤ cap ∧ cap ≤ 9223372036854775807 := by
  obtain ⟨h0, a', cap', h1, h2, h3, h4, h5⟩ := h
  cases h1
  exact ⟨rfl, h2, h3⟩
def Box (w : World) (g : Nat) (t : TypeId) (cs : List Value) : Prop := w.heap[g]? = some (.cells cs.toArray t (0, 0))
section
variable {w w' : World} {g : Nat} {t : TypeId} {cs : List Value}
theorem Box.new (w : World) (t : TypeId) (cs : List Value) : Box (w.alloc (.cells cs.toArray t)) w.heap.size t cs := heap_alloc_new w _
theorem Box.lt (h : Box w g t cs) : g < w.heap.size := (Array.getElem?_eq_some_iff.1 h).1
theorem Box.cell (h : Box w g t cs) {i : Nat} {v : Value} (hv : cs[i]? = some v) : w.cell? ⟨g, i, none⟩ = some v := by
  rw [cell_of_row w g i cs.toArray t (0, 0) h]
  simpa using hv
theorem Box.free (h : Box w g t cs) (i : Nat) : w.frozen? ⟨g, i, none⟩ = false := by
  unfold Box at h
  simp [World.frozen?, h]
theorem Box.keep (h : Box w g t cs) (hk : w'.heap[g]? = w.heap[g]?) : Box w' g t cs := hk.trans h
theorem Box.below {B : Nat} (h : Box w g t cs) (hb : Below B w w') (hg : g < B) : Box w' g t cs := h.keep (hb.block g hg)
theorem Box.alloc (h : Box w g t cs) (o : Obj) : Box (w.alloc o) g t cs := h.keep (Below.heap_alloc w o g h.lt)
theorem Box.far (h : Box w g t cs) {p : Addr} (hp : g ≠ p.block) (u : Value) : Box (w.setCell p u) g t cs := h.keep (Below.heap_setCell w p u g hp)
theorem Box.set (h : Box w g t cs) (i : Nat) (u : Value) : Box (w.setCell ⟨g, i, none⟩ u) g t (cs.set i u) := by
  unfold Box at h ⊢
  simp [World.setCell, Array.getElem?_modify, h]
end
end Go.Proofs.YteefodibpjgicaaGreat

namespace Go.Proofs.YteefodibpjgicaaGreat
open Go.RowKit
set_option maxHeartbeats 1000000 in
theorem ref05blank (c : UInt8) (w : World) : Calls Tryz.prog 91 #[.int .u8 (c.toNat : Int)] w fun e w' => e = .returned (.bool (M5.blankB c)) ∧ w = w' := by
  have key : ∀ d : UInt8, ((c.toNat : Int) == (d.toNat : Int)) = (c == d) := by
    intro d
    by_cases h : c = d
    · subst h; simp
    · rw [ne_byte h]; simp [h]
  have e : Hid (M5.blankB c = (((c.toNat : Int) == 9) || ((c.toNat : Int) == 10) || ((c.toNat : Int) == 12) || ((c.toNat : Int) == 32))) := by
    show _ = _
    unfold M5.blankB
    rw [← key 9, ← key 10, ← key 12, ← key 32]
    rfl
  clear key
  rw [e.out]
  generalize (c.toNat : Int) = n at *
  clear e
  cases h9 : (n == 9)
  · cases h10 : (n == 10)
    · cases h12 : (n == 12)
      · go_enter Tryz.func91, Tryz.ntmps91
        go_wp2
        go_ret
        exact ⟨rfl, rfl⟩
      · go_enter Tryz.func91, Tryz.ntmps91
        go_wp2
        go_ret
        exact ⟨rfl, rfl⟩
    · go_enter Tryz.func91, Tryz.ntmps91
      go_wp2
      go_ret
      exact ⟨rfl, rfl⟩
  · go_enter Tryz.func91, Tryz.ntmps91
    go_wp2
    go_ret
    exact ⟨rfl, rfl⟩
def BoolPost (b : Bool) (w : World) (e : Ending) (w' : World) : Prop := e = .returned (.bool b) ∧ w = w'
theorem eqI (c d : UInt8) : (c == d) = ((c.toNat : Int) == (d.toNat : Int)) := by
  by_cases h : c = d
  · subst h; simp
  · rw [ne_byte h]; simp [h]
theorem drop_cons (s : ByteArray) (i : Nat) (h : i < s.size) : s.data.toList.drop i = s[i] :: s.data.toList.drop (i + 1) := List.drop_eq_getElem_cons (l := s.data.toList) h
theorem drop_end (s : ByteArray) (i : Nat) (h : s.size ≤ i) : s.data.toList.drop i = [] := List.drop_of_length_le h
theorem rf_meas {n k : Nat} (h : k < n) : n - (intOf (.int .i64 ((k : Int) + 1))).toNat < n - (intOf (.int .i64 (k : Int))).toNat := by
  simp [intOf]; omega
theorem Box.two {W : World} {g : Nat} {t : TypeId} {z0 z1 : Value} (h : Box W g t [z0, z1]) (c0 c1 : Value) : Box ((W.setCell ⟨g, 0, none⟩ c0).setCell ⟨g, 1, none⟩ c1) g t [c0, c1] := by
  have := (h.set 0 c0).set 1 c1
  simpa only [List.set_cons_succ, List.set_cons_zero] using this
theorem two_below {B : Nat} {a W : World} (h : Below B a W) {g : Nat} (c0 c1 : Value) (hg : B ≤ g) : Below B a ((W.setCell ⟨g, 0, none⟩ c0).setCell ⟨g, 1, none⟩ c1) :=
  (h.setCell (p := ⟨g, 0, none⟩) hg c0).setCell (p := ⟨g, 1, none⟩) hg c1
end Go.Proofs.YteefodibpjgicaaGreat

namespace Go.Proofs.YteefodibpjgicaaGreat
open Go.RowKit
theorem bs_cut (s : ByteArray) (a b : Nat) : s.extract a b = M5.bs ((s.data.toList.drop a).take (b - a)) := by
  apply ByteArray.ext
  apply Array.ext'
  rw [Lib.extract_data, M5.bs_data]
end Go.Proofs.YteefodibpjgicaaGreat

namespace Go.Proofs.YteefodibpjgicaaGreat
open Go.RowKit
def endV : Option Nat → Int
  | some k => (k : Int)
  | none => -1
def EndsPost (o : Option Nat) (w : World) (e : Ending) (w' : World) : Prop := e = .returned (.int .i64 (endV o)) ∧ Below w.heap.size w w'
def edgeB (d : UInt8) : Bool := M5.blankB d || d == 47 || d == 62
theorem ends_step (wd : List UInt8) (s : ByteArray) (i n : Nat) (hn : wd.length = n) (h : i + n < s.size) : M5.endsL wd (s.data.toList.drop i) = if (M1.fold ((s.data.toList.drop i).take n) == wd && edgeB s[i + n]) then some 0 else (M5.endsL wd (s.data.toList.drop (i + 1))).map (· + 1) := by
  subst hn
  have hd : (s.data.toList.drop i).drop wd.length = s[i + wd.length] :: s.data.toList.drop (i + wd.length + 1) := by
    rw [List.drop_drop]; exact drop_cons s _ h
  rw [drop_cons s i (by omega)] at hd ⊢
  rw [M5.endsL, hd]
  rfl
theorem ends_short (wd l : List UInt8) (h : l.length ≤ wd.length) : M5.endsL wd l = none := by
  induction l with
  | nil => rfl
  | cons c r ih =>
    rw [M5.endsL, List.drop_of_length_le h, ih (by simp only [List.length_cons] at h; omega)]
    simp
set_option maxHeartbeats 2000000 in
set_option maxRecDepth 100000 in
theorem ref05Ends (s nm : ByteArray) (w : World) (hs : s.size ≤ 1073741824) (hn : nm.size ≤ 1073741824) :
    Calls Tryz.prog 69 #[.string s, .string nm] w (EndsPost (M5.endsL ([60, 47] ++ nm.data.toList) s.data.toList) w) := by
  obtain ⟨wd, hwd⟩ : ∃ wd : List UInt8, wd = [60, 47] ++ nm.data.toList := ⟨_, rfl⟩
  have hwl : wd.length = 2 + nm.size := by rw [hwd, List.length_append]; show 2 + nm.size = _; rfl
  obtain ⟨R, h0⟩ : ∃ R, Hid (R = (M5.endsL wd (s.data.toList.drop 0)).map (· + 0)) := ⟨(M5.endsL wd (s.data.toList.drop 0)).map (· + 0), Lib.hid rfl⟩
  rw [← hwd, show M5.endsL wd s.data.toList = R by rw [h0.out]; simp]
  have hW : Hid (((⟨#[60, 47]⟩ : ByteArray) ++ nm).toList = wd) := by show _ = _; rw [Lib.toList_data, ByteArray.data_append, Array.toList_append, hwd]
  replace hwd := Lib.hid hwd
  have hadd : ¬ 9223372036854775807 < 2 + nm.size := by omega
  obtain ⟨wo, rfl⟩ : ∃ wo : World, wo = w := ⟨_, rfl⟩
  go_enter Tryz.func69, Tryz.ntmps69
  go_wp2_with fail
  obtain ⟨n, hnn⟩ : ∃ n, n = 2 + nm.size := ⟨_, rfl⟩
  rw [show (2 : Int) + (nm.size : Int) = ((n : Nat) : Int) by omega]
  have hwn : wd.length = n := by omega
  have hnb : n ≤ 1073741826 := by omega
  clear hwl
  replace hnn := Lib.hid hnn
  go_loopw [6] (fun u6 wr => Below wo.heap.size wo wr ∧ ∃ i : Nat, i ≤ s.size ∧ u6 = .int .i64 (i : Int) ∧ Hid (R = (M5.endsL wd (s.data.toList.drop i)).map (· + i))) (fun u6 _ => s.size - (intOf u6).toNat)
  case atStart => exact ⟨Below.refl _ _, 0, (by omega), rfl, h0⟩
  case round =>
    obtain ⟨hbl, i, hi, rfl, hv⟩ := hrel
    by_cases hlt : i + n < s.size
    · have hil : i < s.size := by omega
      have hstep := ends_step wd s i n (by omega) (by omega)
      have hx : (s.extract i (i + n)).data.toList = (s.data.toList.drop i).take n := by rw [Lib.extract_data, Nat.add_sub_cancel_left]
      have hxs : (s.extract i (i + n)).size ≤ 1073741824 := by rw [ByteArray.size_extract]; omega
      have hF := Lib.hid (fun w => ref01Fold (s.extract i (i + n)) w hxs)
      rw [← hx] at hstep
      replace hx := Lib.hid hx
      obtain ⟨G, hG⟩ : ∃ G, G = M1.fold (s.extract i (i + n)).data.toList := ⟨_, rfl⟩
      rw [← hG] at hstep
      replace hG := Lib.hid hG
      replace hstep := Lib.hid hstep
      go_wp2_with fail
      replace hstep := hstep.out
      refine (hF.out _).mono ?_
      rintro e1 w1 ⟨rfl, hb1⟩
      rw [← hG.out]
      have hBl := Lib.hid (fun w => ref05blank s[i + n] w)
      by_cases hg : G = wd
      · have hcmp : (G == ((⟨#[60, 47]⟩ : ByteArray) ++ nm).toList) = true := by rw [hW.out, hg]; simp
        rw [show (G == wd) = true by rw [hg]; simp, Bool.true_and] at hstep
        replace hg := Lib.hid hg
        replace hstep := Lib.hid hstep
        go_wp2_with fail
        replace hstep := hstep.out
        refine (hBl.out _).mono ?_
        rintro e2 w2 ⟨rfl, rfl⟩
        have e47 : ((s[i + n].toNat : Int) == 47) = (s[i + n] == 47) := (eqI _ 47).symm
        have e62 : ((s[i + n].toNat : Int) == 62) = (s[i + n] == 62) := (eqI _ 62).symm
        have hyes : edgeB s[i + n] = true → R = some i := fun hed => by rw [hv.out, hstep, hed, if_pos rfl]; exact congrArg some (Nat.zero_add i)
        have hnot : edgeB s[i + n] = false → R = (M5.endsL wd (s.data.toList.drop (i + 1))).map (· + (i + 1)) := fun hed => by
          rw [hv.out, hstep, hed, if_neg (by simp), Option.map_map]
          congr 1; funext k; show k + 1 + i = k + (i + 1); omega
        replace hstep := Lib.hid hstep
        rw [edgeB] at hyes hnot
        rcases Bool.eq_false_or_eq_true (M5.blankB s[i + n]) with hb | hb
        · rw [hb]
          replace hyes := Lib.hid (hyes (by rw [hb]; rfl))
          clear hnot e47 e62
          go_wp2_with fail
          go_ret
          exact ⟨by rw [hyes.out]; rfl, bt hbl hb1⟩
        · rw [hb] at hyes hnot ⊢
          rcases Bool.eq_false_or_eq_true (s[i + n] == 47) with h4 | h4
          · rw [h4] at hyes e47
            replace hyes := Lib.hid (hyes rfl)
            clear hnot e62
            replace h4 := Lib.hid h4
            go_wp2_with fail
            go_ret
            exact ⟨by rw [hyes.out]; rfl, bt hbl hb1⟩
          · rw [h4] at hyes hnot e47
            rcases Bool.eq_false_or_eq_true (s[i + n] == 62) with h6 | h6
            · rw [h6] at hyes e62
              replace hyes := Lib.hid (hyes rfl)
              clear hnot
              replace h4 := Lib.hid h4
              replace h6 := Lib.hid h6
              go_wp2_with fail
              go_ret
              exact ⟨by rw [hyes.out]; rfl, bt hbl hb1⟩
            · rw [h6] at hnot e62
              replace hnot := Lib.hid (hnot rfl)
              clear hyes
              replace h4 := Lib.hid h4
              replace h6 := Lib.hid h6
              go_wp2_with fail
              go_round
              case rel => exact ⟨bt hbl hb1, i + 1, by omega, by go_num, hnot⟩
              case measure => exact rf_meas hil
      · have hcmp : (G == ((⟨#[60, 47]⟩ : ByteArray) ++ nm).toList) = false := by rw [hW.out, beq_eq_false_iff_ne]; exact hg
        have hv2 : Hid (R = (M5.endsL wd (s.data.toList.drop (i + 1))).map (· + (i + 1))) := by
          show _ = _
          rw [hv.out, hstep, show (G == wd) = false by rw [beq_eq_false_iff_ne]; exact hg, Bool.false_and, if_neg (by simp), Option.map_map]
          congr 1; funext k; show k + 1 + i = k + (i + 1); omega
        replace hg := Lib.hid hg
        replace hstep := Lib.hid hstep
        go_wp2_with fail
        go_round
        case rel => exact ⟨bt hbl hb1, i + 1, by omega, by go_num, hv2⟩
        case measure => exact rf_meas hil
    · have hno : R = none := by
        rw [hv.out, ends_short wd _ (by rw [List.length_drop]; show s.size - i ≤ _; omega)]; rfl
      replace hno := Lib.hid hno
      go_wp2_with fail
      go_ret
      exact ⟨by rw [hno.out]; rfl, hbl⟩
end Go.Proofs.YteefodibpjgicaaGreat

namespace Go.Proofs.YteefodibpjgicaaGreat.Kmp
def Low (u : List UInt8) : Prop := ∀ x ∈ u, M1.small x = x
def IsL (wd u : List UInt8) (h : Nat) : Prop := h ≤ wd.length ∧ wd.take h <:+ u ∧ ∀ k, k ≤ wd.length → wd.take k <:+ u → k ≤ h
def MB (wd : List UInt8) (j b : Nat) : Prop := b < j ∧ wd.take b <:+ wd.take j ∧ ∀ k, k < j → wd.take k <:+ wd.take j → k ≤ b
def Tab (wd : List UInt8) (bk : Nat → Nat) (M : Nat) : Prop := ∀ j, 1 ≤ j → j ≤ M → bk j < j ∧ (Low (wd.take j) → MB wd j (bk j))
def Cand (wd u : List UInt8) (c : UInt8) (h : Nat) : Prop := wd.take h <:+ u ∧ ∀ k, k ≤ wd.length → wd.take k <:+ u ++ [c] → k ≤ h + 1
theorem suf_snoc {a u : List UInt8} {x c : UInt8} (h : a ++ [x] <:+ u ++ [c]) : a <:+ u ∧ x = c := by
  obtain ⟨t, ht⟩ := h
  rw [← List.append_assoc] at ht
  have := List.append_inj' ht rfl
  exact ⟨⟨t, this.1⟩, by simpa using this.2⟩
theorem take_snoc (wd : List UInt8) (k : Nat) (h : k < wd.length) : wd.take (k + 1) = wd.take k ++ [wd[k]] := List.take_succ_eq_append_getElem h
theorem cand_of {wd u : List UInt8} {c : UInt8} {h : Nat} (hl : IsL wd u h) : Cand wd u c h := by
  refine ⟨hl.2.1, fun k hk hs => ?_⟩
  cases k with
  | zero => omega
  | succ k =>
    rw [take_snoc wd k (by omega)] at hs
    have := hl.2.2 k (by omega) (suf_snoc hs).1
    omega
theorem cand_hit {wd u : List UInt8} {c : UInt8} {h : Nat} (hc : Cand wd u c h) (hh : h < wd.length) (he : wd[h] = c) : IsL wd (u ++ [c]) (h + 1) := by
  refine ⟨hh, ?_, hc.2⟩
  rw [take_snoc wd h hh, he]
  obtain ⟨t, ht⟩ := hc.1
  exact ⟨t, by rw [← List.append_assoc, ht]⟩
theorem cand_zero {wd u : List UInt8} {c : UInt8} (hc : Cand wd u c 0) (hh : 0 < wd.length) (he : wd[0] ≠ c) : IsL wd (u ++ [c]) 0 := by
  refine ⟨Nat.zero_le _, ⟨u ++ [c], by simp⟩, fun k hk hs => ?_⟩
  have h1 := hc.2 k hk hs
  rcases Nat.lt_or_ge 0 k with h | h
  · obtain rfl : k = 1 := by omega
    rw [take_snoc wd 0 hh] at hs
    exact absurd (suf_snoc hs).2 he
  · exact h
theorem low_suf {a u : List UInt8} (h : a <:+ u) (hu : Low u) : Low a := fun x hx => hu x (h.subset hx)
theorem cand_miss {wd u : List UInt8} {c : UInt8} {h M : Nat} {bk : Nat → Nat} (hu : Low u) (ht : Tab wd bk M) (h1 : 1 ≤ h) (hM : h ≤ M) (hn : h ≤ wd.length) (hc : Cand wd u c h) (he : ∀ hh : h < wd.length, wd[h] ≠ c) : Cand wd u c (bk h) := by
  obtain ⟨hb1, hb2⟩ := ht h h1 hM
  obtain ⟨m1, m2, m3⟩ := hb2 (low_suf hc.1 hu)
  refine ⟨m2.trans hc.1, fun k hk hs => ?_⟩
  have h2 := hc.2 k hk hs
  cases k with
  | zero => omega
  | succ k =>
    rw [take_snoc wd k (by omega)] at hs
    obtain ⟨s1, s2⟩ := suf_snoc hs
    by_cases hkh : k = h
    · subst hkh
      exact absurd s2 (he (by omega))
    · have hlt : k < h := by omega
      have := m3 k hlt (List.suffix_of_suffix_length_le s1 hc.1 (by rw [List.length_take, List.length_take]; omega))
      omega
def Strides (wd : List UInt8) (h : Nat) (c : UInt8) (r : Nat) : Prop := r ≤ h + 1 ∧ r ≤ wd.length ∧ ∀ u, Low u → IsL wd u h → IsL wd (u ++ [M1.small c]) r
theorem isL_nil (wd : List UInt8) : IsL wd [] 0 := by
  refine ⟨Nat.zero_le _, ⟨[], by simp⟩, fun k hk hs => ?_⟩
  have := hs.length_le
  rw [List.length_take, List.length_nil] at this
  omega
theorem tab_one (wd : List UInt8) (bk : Nat → Nat) (h : bk 1 = 0) : Tab wd bk 1 := by
  intro j h1 h2
  obtain rfl : j = 1 := by omega
  rw [h]
  refine ⟨by omega, fun _ => ⟨by omega, ⟨wd.take 1, by simp⟩, fun k hk _ => by omega⟩⟩
theorem isL_mb {wd : List UInt8} {i b : Nat} (h1 : 1 ≤ i) (hi : i ≤ wd.length) (h : MB wd i b) : IsL wd ((wd.take i).drop 1) b := by
  have hlen : (wd.take i).length = i := by rw [List.length_take]; omega
  refine ⟨by have := h.1; omega, ?_, fun k hk hs => ?_⟩
  · refine List.suffix_of_suffix_length_le h.2.1 (List.drop_suffix 1 _) ?_
    rw [List.length_drop, hlen, List.length_take]
    have := h.1
    omega
  · have hl := hs.length_le
    rw [List.length_drop, hlen, List.length_take] at hl
    exact h.2.2 k (by omega) (hs.trans (List.drop_suffix 1 _))
theorem mb_isL {wd : List UInt8} {i b : Nat} (h1 : 1 ≤ i) (hi : i ≤ wd.length) (h : IsL wd ((wd.take i).drop 1) b) : MB wd i b := by
  have hlen : (wd.take i).length = i := by rw [List.length_take]; omega
  have hl := h.2.1.length_le
  rw [List.length_drop, hlen, List.length_take] at hl
  have hb := h.1
  refine ⟨by omega, h.2.1.trans (List.drop_suffix 1 _), fun k hk hs => ?_⟩
  refine h.2.2 k (by omega) (List.suffix_of_suffix_length_le hs (List.drop_suffix 1 _) ?_)
  rw [List.length_drop, hlen, List.length_take]
  omega
theorem tab_next {wd : List UInt8} {bk : Nat → Nat} {i : Nat} (h1 : 1 ≤ i) (hi : i < wd.length) (ht : Tab wd bk i) (r : Nat) (hr : Strides wd (bk i) wd[i] r) :
    Tab wd (fun j => if j = i + 1 then r else bk j) (i + 1) := by
  intro j j1 j2
  obtain ⟨t1, t2⟩ := ht i h1 (Nat.le_refl _)
  by_cases hj : j = i + 1
  · subst hj
    simp only [if_true]
    refine ⟨by have := hr.1; omega, fun hlow => ?_⟩
    have hlow1 : Low (wd.take i) := fun x hx => hlow x (by rw [take_snoc wd i hi]; exact List.mem_append_left _ hx)
    have hsm : M1.small wd[i] = wd[i] := hlow _ (by rw [take_snoc wd i hi]; exact List.mem_append_right _ (List.mem_singleton_self _))
    have hL := hr.2.2 _ (low_suf (List.drop_suffix 1 _) hlow1) (isL_mb h1 (by omega) (t2 hlow1))
    refine mb_isL (by omega) (by omega) ?_
    rw [hsm] at hL
    have e : (wd.take (i + 1)).drop 1 = (wd.take i).drop 1 ++ [wd[i]] := by
      rw [take_snoc wd i hi, List.drop_append_of_le_length (by rw [List.length_take]; omega)]
    rw [e]
    exact hL
  · simp only [if_neg hj]
    exact ht j j1 (by omega)
def Hit (wd l : List UInt8) (j : Nat) : Prop := M1.fold ((l.drop j).take wd.length) = wd ∧ ∃ h : j + wd.length < l.length, edgeB l[j + wd.length] = true
theorem ends_cons (wd : List UInt8) (c : UInt8) (r : List UInt8) : (Hit wd (c :: r) 0 → M5.endsL wd (c :: r) = some 0) ∧ (¬ Hit wd (c :: r) 0 → M5.endsL wd (c :: r) = (M5.endsL wd r).map (· + 1)) := by
  rw [M5.endsL]
  constructor
  · rintro ⟨h1, h2, h3⟩
    rw [Nat.zero_add] at h2
    have e : (c :: r).drop wd.length = (c :: r)[wd.length] :: (c :: r).drop (wd.length + 1) := List.drop_eq_getElem_cons h2
    rw [List.drop_zero] at h1
    rw [e, h1]
    have h3' : edgeB (c :: r)[wd.length] = true := by simpa using h3
    rw [if_pos]
    rw [beq_self_eq_true, Bool.true_and]
    exact h3'
  · intro h
    rw [if_neg]
    intro h'
    apply h
    rw [Bool.and_eq_true] at h'
    obtain ⟨h1, h2⟩ := h'
    refine ⟨by rw [List.drop_zero]; exact beq_iff_eq.1 h1, ?_⟩
    by_cases hl : wd.length < (c :: r).length
    · refine ⟨by rw [Nat.zero_add]; exact hl, ?_⟩
      have e : (c :: r).drop wd.length = (c :: r)[wd.length] :: (c :: r).drop (wd.length + 1) := List.drop_eq_getElem_cons hl
      rw [e] at h2
      have h2' : edgeB (c :: r)[wd.length] = true := h2
      simpa using h2'
    · rw [List.drop_of_length_le (by omega)] at h2
      cases h2
theorem hit_cons (wd : List UInt8) (c : UInt8) (r : List UInt8) (j : Nat) : Hit wd (c :: r) (j + 1) ↔ Hit wd r j := by
  unfold Hit
  rw [List.drop_succ_cons]
  constructor
  · rintro ⟨h1, h2, h3⟩
    have h2' : j + wd.length < r.length := by simp only [List.length_cons] at h2; omega
    refine ⟨h1, h2', ?_⟩
    have e : (c :: r)[j + 1 + wd.length] = r[j + wd.length] := by
      rw [List.getElem_cons]
      rw [dif_neg (by omega)]
      congr 1
      omega
    rw [← e]
    exact h3
  · rintro ⟨h1, h2, h3⟩
    have h2' : j + 1 + wd.length < (c :: r).length := by simp only [List.length_cons]; omega
    refine ⟨h1, h2', ?_⟩
    have e : (c :: r)[j + 1 + wd.length] = r[j + wd.length] := by
      rw [List.getElem_cons]
      rw [dif_neg (by omega)]
      congr 1
      omega
    rw [e]
    exact h3
theorem ends_some (wd : List UInt8) : ∀ (l : List UInt8) (j : Nat), Hit wd l j → (∀ k, k < j → ¬ Hit wd l k) → M5.endsL wd l = some j := by
  intro l
  induction l with
  | nil => intro j h; obtain ⟨_, h2, _⟩ := h; simp at h2
  | cons c r ih =>
    intro j h hn
    cases j with
    | zero => exact (ends_cons wd c r).1 h
    | succ j =>
      rw [(ends_cons wd c r).2 (hn 0 (by omega)), ih j ((hit_cons wd c r j).1 h) (fun k hk h' => hn (k + 1) (by omega) ((hit_cons wd c r k).2 h'))]
      rfl
theorem ends_none (wd : List UInt8) : ∀ (l : List UInt8), (∀ k, ¬ Hit wd l k) → M5.endsL wd l = none := by
  intro l
  induction l with
  | nil => intro _; rfl
  | cons c r ih =>
    intro hn
    rw [(ends_cons wd c r).2 (hn 0), ih (fun k h' => hn (k + 1) ((hit_cons wd c r k).2 h'))]
    rfl
theorem hit_iff {wd l : List UInt8} {i h : Nat} (hi : i < l.length) (hL : IsL wd (M1.fold (l.take i)) h) (hw : wd.length ≤ i) : Hit wd l (i - wd.length) ↔ (h = wd.length ∧ edgeB l[i] = true) := by
  have hfl : M1.fold (l.take i) = M1.fold (l.take (i - wd.length)) ++ M1.fold ((l.drop (i - wd.length)).take wd.length) := by
    unfold M1.fold
    rw [← List.map_append]
    congr 1
    have : l.take i = l.take ((i - wd.length) + wd.length) := by rw [Nat.sub_add_cancel hw]
    rw [this, List.take_add]
  have hx : M1.fold ((l.drop (i - wd.length)).take wd.length) = wd ↔ h = wd.length := by
    constructor
    · intro e
      have := hL.2.2 wd.length (Nat.le_refl _) (by rw [List.take_length, hfl, e]; exact ⟨_, rfl⟩)
      have := hL.1
      omega
    · intro e
      subst e
      have h2 := hL.2.1
      rw [List.take_length, hfl] at h2
      have hlen : (M1.fold ((l.drop (i - wd.length)).take wd.length)).length = wd.length := by
        unfold M1.fold
        rw [List.length_map, List.length_take, List.length_drop]
        omega
      obtain ⟨t, ht⟩ := h2
      exact (List.append_inj' ht (by rw [hlen])).2.symm
  unfold Hit
  rw [hx]
  constructor
  · rintro ⟨h1, h2, h3⟩
    refine ⟨h1, ?_⟩
    simpa [Nat.sub_add_cancel hw] using h3
  · rintro ⟨h1, h3⟩
    exact ⟨h1, by omega, by simpa [Nat.sub_add_cancel hw] using h3⟩
theorem fold_snoc (l : List UInt8) (i : Nat) (h : i < l.length) : M1.fold (l.take (i + 1)) = M1.fold (l.take i) ++ [M1.small l[i]] := by
  unfold M1.fold
  rw [List.take_succ_eq_append_getElem h, List.map_append]
  rfl
theorem low_fold (l : List UInt8) : Low (M1.fold l) := by
  intro x hx
  unfold M1.fold at hx
  obtain ⟨y, _, rfl⟩ := List.mem_map.1 hx
  exact M1.small_small y
end Go.Proofs.YteefodibpjgicaaGreat.Kmp

namespace Go.Proofs.YteefodibpjgicaaGreat.M5
def keepT (t : Tok) : List Tok := if t.kind ≠ 0 then [t] else []
theorem endN_le (nm l : List UInt8) : endN nm l ≤ l.length := by
  unfold endN
  cases h : endsL ([60, 47] ++ nm) l with
  | none => exact Nat.le_refl _
  | some k =>
    show k ≤ l.length
    generalize [60, 47] ++ nm = wd at h
    induction l generalizing k with
    | nil => cases h
    | cons c r ih =>
      by_cases h0 : Kmp.Hit wd (c :: r) 0
      · rw [(Kmp.ends_cons wd c r).1 h0] at h
        cases h
        exact Nat.zero_le _
      · rw [(Kmp.ends_cons wd c r).2 h0] at h
        cases hr : endsL wd r with
        | none => rw [hr] at h; cases h
        | some j =>
          rw [hr] at h
          have := ih j hr
          have h' : j + 1 = k := by simpa using h
          simp only [List.length_cons]
          omega
theorem rawT_raw (t : Tok) (l : List UInt8) (h : t.kind = 1 ∧ M3.rawB t.name.data.toList = true) :
    rawT t l = (keepT (contC (endN t.name.data.toList l) l), l.drop (endN t.name.data.toList l)) := by
  rw [rawT, if_pos h]
  congr 1
  have hle := endN_le t.name.data.toList l
  generalize endN t.name.data.toList l = n at *
  unfold contC keepT asIs
  by_cases hz : n = 0
  · subst hz
    rw [if_pos rfl]
    rfl
  · rw [if_neg hz, if_neg, if_pos (show (3 : Int) ≠ 0 by decide)]
    rw [Bool.not_eq_true, List.isEmpty_eq_false_iff]
    intro e
    have := congrArg List.length e
    rw [List.length_take, List.length_nil] at this
    omega
theorem rawT_not (t : Tok) (l : List UInt8) (h : ¬ (t.kind = 1 ∧ M3.rawB t.name.data.toList = true)) : rawT t l = ([], l) := by rw [rawT, if_neg h]
theorem round_raw (l : List UInt8) (h : startsB l = true) (hr : (tagR l).1.kind = 1 ∧ M3.rawB (tagR l).1.name.data.toList = true) :
    toksR [] l = keepT (tagR l).1 ++ (keepT (contC (endN (tagR l).1.name.data.toList (tagR l).2) (tagR l).2) ++ toksR [] ((tagR l).2.drop (endN (tagR l).1.name.data.toList (tagR l).2))) := by
  rw [toks_tag l h, rawT_raw _ _ hr]
  rfl
theorem round_tag (l : List UInt8) (h : startsB l = true) (hr : ¬ ((tagR l).1.kind = 1 ∧ M3.rawB (tagR l).1.name.data.toList = true)) :
    toksR [] l = keepT (tagR l).1 ++ toksR [] (tagR l).2 := by
  rw [toks_tag l h, rawT_not _ _ hr, List.nil_append]
  rfl
end Go.Proofs.YteefodibpjgicaaGreat.M5

namespace Go.Proofs.YteefodibpjgicaaGreat.M5
open M1 (isB)
def R (l : List UInt8) : Prop := isB l = true
end Go.Proofs.YteefodibpjgicaaGreat.M5

namespace Go.Proofs.YteefodibpjgicaaGreat
open Go.RowKit
theorem sizeB7 : (Tryz.prog.info? 120).map (·.size) = some 2 := by kernel_rfl
theorem infoU87 : (Tryz.prog.info? 5).map (fun i => (i.zero, i.size, i.bytes)) = some (some (.int .u8 0), 1, 1) := by kernel_rfl
theorem bxLen (g : Nat) (a : Option Addr) (n cap : Nat) (w : World) (h1 : w.cell? ⟨g, 2, none⟩ = some (.slice a n cap)) :
    Calls Tryz.prog 208 #[.pointer (some ⟨g, 1, none⟩)] w fun e w' => e = .returned (.int .i64 (n : Int)) ∧ w = w' := by
  go_enter Tryz.func208, Tryz.ntmps208
  go_wp2_with fail
  go_ret
  exact ⟨rfl, rfl⟩
theorem bxReset (g : Nat) (c0 p v c3 : Value) (w : World) (hb : Box w g 193 [c0, p, v, c3]) :
    Calls Tryz.prog 200 #[.pointer (some ⟨g, 1, none⟩)] w fun e w' => e = .returned (.tuple #[]) ∧ w' = (w.setCell ⟨g, 1, none⟩ (.pointer none)).setCell ⟨g, 2, none⟩ (.slice none 0 0) := by
  have k1 := hb.cell (i := 1) rfl
  have k2 := hb.cell (i := 2) rfl
  have fz := hb.free
  go_enter Tryz.func200, Tryz.ntmps200
  go_wp2_with fail
  go_end0
  exact ⟨rfl, rfl⟩
set_option maxHeartbeats 2000000 in
set_option maxRecDepth 100000 in
theorem bxCheck (g : Nat) (c0 p v c3 : Value) (w : World) (hb : Box w g 193 [c0, p, v, c3]) (hp : p = .pointer none ∨ p = .pointer (some ⟨g, 1, none⟩)) :
    Calls Tryz.prog 114 #[.pointer (some ⟨g, 1, none⟩)] w fun e w' => e = .returned (.tuple #[]) ∧ Box w' g 193 [c0, .pointer (some ⟨g, 1, none⟩), v, c3] ∧ (w' = w ∨ w' = w.setCell ⟨g, 1, none⟩ (.pointer (some ⟨g, 1, none⟩))) := by
  obtain ⟨j, hj, hjs⟩ := Option.map_eq_some_iff.1 sizeB7
  have k1 := hb.cell (i := 1) rfl
  have fz := hb.free
  have hsh : w.shape? g = some (193, 4) := by unfold World.shape?; rw [hb]; rfl
  have hb' := hb.set 1 (.pointer (some ⟨g, 1, none⟩))
  rcases hp with rfl | rfl
  · go_enter Tryz.func114, Tryz.ntmps114
    go_wp2
    rw [Lib.run_to_unsafe w ⟨g, 1, none⟩ Tryz.underlying118 Tryz.underlying131 hj (by rw [hjs]; decide) hsh (by show (1:Nat) < 4; omega)]
    simp only [Result.andThen]
    rw [Oper.upon_value]
    go_wp2
    rw [run_callFunc_extern Tryz.func122 (by kernel_rfl) (by kernel_rfl) (by kernel_rfl) (e := Extern.AbiNoEscape.same) (by kernel_rfl)]
    rw [Lib.run_noEscape]
    simp only [Result.andThen]
    rw [Oper.upon_value]
    go_wp2
    rw [Lib.run_from_unsafe w ⟨g, 1, none⟩ Tryz.underlying131 Tryz.underlying118 hj hsh (by kernel_rfl)]
    simp only [Result.andThen]
    rw [Oper.upon_value]
    go_wp2
    go_end0
    exact ⟨rfl, hb', .inr rfl⟩
  · go_enter Tryz.func114, Tryz.ntmps114
    go_wp2
    rw [Lib.run_neq_ptr_same w _ Tryz.underlying118 hj]
    go_wp2
    go_end0
    exact ⟨rfl, hb, .inl rfl⟩
def Turned (g : Nat) (r : Option Nat) (w w' : World) : Prop := w'.os = w.os ∧ w'.tape = w.tape ∧ w'.output = w.output ∧ w.heap.size ≤ w'.heap.size ∧ ∀ b, b < w.heap.size → b ≠ g → r ≠ some b → w'.heap[b]? = w.heap[b]?
theorem wpList_appS {P : Program} {ops : Array Oper} {rest : List Oper} {o : Oper} {a : Act} {Q : Exit → Act → World → Prop} (w : World) (hgd : o.guard = none) (sl x : Operand) (t u : TypeId)
    (ho : o.op = .call { callee := .builtin .append, args := #[sl, x], argTypes := #[t, u] })
    (e : TypeId) (ht : P.underlying t = some (.slice e)) (hu : P.underlying u = some .string) (hinfo : (P.info? e).map (fun i => (i.zero, i.size, i.bytes)) = some (some (.int .u8 0), 1, 1))
    (v : Value) (n : Nat) (xs : List Value) (hs : a.eval sl = v) (hown : w.ownsRowF 0 e 1 v n xs) (s : ByteArray) (hx : a.eval x = .string s) (hbytes : n + s.size ≤ 140737488355328)
    (h : ∀ v' w', w'.ownsRowF 0 e 1 v' (n + s.size) (xs ++ Lib.strCells s) → w.grownBy w' v.ownBlock → (∀ c, v'.ownBlock = some c → v.ownBlock = some c ∨ w.heap.size ≤ c) → wpList P ops Q rest (a.put o.dst v') w') : wpList P ops Q (o :: rest) a w := by
  obtain ⟨i, hi, hz, hsize, hby⟩ := info_parts hinfo
  refine wpList_plain hgd fun K hK => ?_
  have h63 : n + s.size ≤ maxLen := by unfold maxLen; omega
  obtain ⟨v', w', hr, h2, h3, _⟩ := Lib.run_append_own_stringF (P := P) w 0 t u o.type e i ht hu hi hz hsize hby v n xs hown s h63 hbytes (Nat.zero_le _)
  have hat : ∀ c, v'.ownBlock = some c → v.ownBlock = some c ∨ w.heap.size ≤ c := by
    intro c hc
    rcases hown.2 with ⟨rfl, rfl⟩ | ⟨g, cap, cur, fz, rfl, _, hg, hfz, hnc, hcm, hcs, htake⟩
    · obtain ⟨v'', w'', hr', h2', _⟩ := Lib.run_append_own_stringF (P := P) w w.heap.size t u o.type e i ht hu hi hz hsize hby (.slice none 0 0) 0 xs ⟨hown.1, .inl ⟨rfl, rfl⟩⟩ s h63 hbytes (Nat.le_refl _)
      have e1 := hr.symm.trans hr'
      injection e1 with e1 e2
      subst e1
      exact .inr (h2'.lt c hc).1
    · by_cases hroom : n + s.size ≤ cap
      · have hr' := Lib.run_append_room_stringF (P := P) w t u o.type e i ht hu hi hsize g n cap cur fz hg (by simpa using hfz) s hroom (by omega)
        have e1 := hr.symm.trans hr'
        injection e1 with e1 e2
        subst e1
        exact .inl hc
      · have hxl : xs.length = n := by simpa using hown.1
        have holds : ∀ j u, xs[j]? = some u → w.cell? ((⟨g, 0, none⟩ : Addr).add j) = some u := hown.cells (g := g) rfl
        have hr' := Lib.run_append_grow_string (P := P) w t u o.type e i (.int .u8 0) ht hu hi hz ⟨g, 0, none⟩ n cap xs (by rw [hsize]; simpa using hxl) holds s (by omega) (by unfold maxLen at h63; omega) (by rw [hby]; exact growslice_fits (by omega) (by omega))
        have e1 := hr.symm.trans hr'
        injection e1 with e1 e2
        subst e1
        have : w.heap.size = c := by simpa [Value.ownBlock] using hc
        exact .inr (by omega)
  unfold Oper.wp execOp
  simp only [ho, resolve, invoke, builtin, Sem.run_bind, Sem.run_pure, Result.andThen_ok, List.map_toArray, List.map_cons, List.map_nil, hs, hx, hr]
  exact hK _ _ (h v' w' h2 h3 hat)
set_option maxHeartbeats 4000000 in
set_option maxRecDepth 100000 in
theorem bxWrite (g : Nat) (c0 p v c3 : Value) (tx : List UInt8) (s : ByteArray) (w : World) (hb : Box w g 193 [c0, p, v, c3]) (hp : p = .pointer none ∨ p = .pointer (some ⟨g, 1, none⟩)) (hown : w.ownsRowF 0 5 1 v tx.length (u8s tx)) (hne : v.ownBlock ≠ some g) (hlen : tx.length + s.size ≤ 140737488355328) :
    Calls Tryz.prog 106 #[.pointer (some ⟨g, 1, none⟩), .string s] w fun e w' => e = .returned (.tuple #[.int .i64 s.size, .nilIface]) ∧ ∃ v', Box w' g 193 [c0, .pointer (some ⟨g, 1, none⟩), v', c3] ∧ w'.ownsRowF 0 5 1 v' (tx ++ s.data.toList).length (u8s (tx ++ s.data.toList)) ∧ (∀ c, v'.ownBlock = some c → v.ownBlock = some c ∨ w.heap.size ≤ c) ∧ Turned g v.ownBlock w w' := by
  obtain ⟨i0, hi, hz0, hz1, hz2⟩ := info_parts infoU87
  have hgl := hb.lt
  obtain ⟨av, cv, rfl⟩ : ∃ a c, v = .slice a tx.length c := by
    rcases hown.2 with ⟨rfl, h0⟩ | ⟨g', cap, cur, fz, rfl, _⟩
    · exact ⟨none, 0, by rw [h0]⟩
    · exact ⟨_, _, rfl⟩
  go_enter Tryz.func106, Tryz.ntmps106
  go_wp2_with (go_at_call 114; refine (bxCheck g c0 p _ c3 _ hb hp).mono ?_)
  rintro e w1 ⟨rfl, hb1, hw1⟩
  have hT1 : w1.os = w.os ∧ w1.tape = w.tape ∧ w1.output = w.output ∧ w1.heap.size = w.heap.size ∧ ∀ b, b ≠ g → w1.heap[b]? = w.heap[b]? := by
    rcases hw1 with rfl | rfl
    · exact ⟨rfl, rfl, rfl, rfl, fun _ _ => rfl⟩
    · exact ⟨rfl, rfl, rfl, by simp, fun b hb => Below.heap_setCell _ _ _ _ hb⟩
  have hown1 : w1.ownsRowF 0 5 1 (.slice av tx.length cv) tx.length (u8s tx) := by
    refine ⟨hown.1, ?_⟩
    rcases hown.2 with h | ⟨g', cap, cur, fz, e, h1, h2, h3⟩
    · exact .inl h
    · refine .inr ⟨g', cap, cur, fz, e, h1, ?_, h3⟩
      rw [hT1.2.2.2.2 g' (fun e2 => hne (by rw [e, e2]; rfl))]
      exact h2
  clear hw1
  have k2 := hb1.cell (i := 2) rfl
  go_wp2_with (at_builtin; refine wpList_appS _ rfl _ _ 22 9 rfl 5 Tryz.underlying22 Tryz.underlying9 infoU87 _ _ _ rfl hown1 s rfl hlen ?_)
  intro v' w2 hown' hgrow hat
  have hb2 : Box w2 g 193 [c0, .pointer (some ⟨g, 1, none⟩), .slice av tx.length cv, c3] := hb1.keep (hgrow.block g hb1.lt (fun e => hne e.symm))
  have d2 := hb2.cell (i := 2) rfl
  have f1 := hb2.free
  obtain ⟨ao, n', cap, rfl⟩ : ∃ ao n' cap, v' = .slice ao n' cap := by
    rcases hown'.2 with ⟨hv, _⟩ | ⟨g, cap, cur, fz, hv, _⟩
    · exact ⟨_, _, _, hv⟩
    · exact ⟨_, _, _, hv⟩
  have hb3 := hb2.set 2 (.slice ao n' cap)
  have hgl1 := hb1.lt
  have hv' : ∀ c, (Value.slice ao n' cap).ownBlock = some c → (Value.slice av tx.length cv).ownBlock = some c ∨ w.heap.size ≤ c := fun c hc => by
    have h := hat c hc
    have e := hT1.2.2.2.1
    rcases h with h | h
    · exact .inl h
    · exact .inr (by omega)
  have hne' : (Value.slice ao n' cap).ownBlock ≠ some g := fun e => by
    rcases hv' g e with h | h
    · exact hne h
    · omega
  have hown3 : (w2.setCell ⟨g, 2, none⟩ (.slice ao n' cap)).ownsRowF 0 5 1 (.slice ao n' cap) (tx ++ s.data.toList).length (u8s (tx ++ s.data.toList)) := by
    have e1 : (tx ++ s.data.toList).length = tx.length + s.size := by rw [List.length_append]; rfl
    have e2 : u8s (tx ++ s.data.toList) = u8s tx ++ Lib.strCells s := by rw [u8s_append]; rfl
    rw [e1, e2]
    exact hown'.kept (row := some g) ⟨rfl, rfl, rfl, by simp, fun k _ hk => Below.heap_setCell _ _ _ _ (fun e => hk (by rw [e]))⟩ (Or.inr hne')
  have hT : Turned g (Value.slice av tx.length cv).ownBlock w (w2.setCell ⟨g, 2, none⟩ (.slice ao n' cap)) := by
    refine ⟨hgrow.os.trans hT1.1, hgrow.tape.trans hT1.2.1, hgrow.output.trans hT1.2.2.1, ?_, fun b hb hbg hbr => ?_⟩
    · have := hgrow.size
      simp
      rw [hT1.2.2.2.1] at this
      exact this
    · rw [Below.heap_setCell _ _ _ _ hbg, hgrow.block b (by rw [hT1.2.2.2.1]; exact hb) (fun e => hbr e.symm), hT1.2.2.2.2 b hbg]
  clear hown hown1 hown' hgrow hat hb2 hb1
  replace hown3 := Lib.hid hown3
  replace hT := Lib.hid hT
  replace hb3 := Lib.hid hb3
  replace hv' := Lib.hid hv'
  go_wp2_with fail
  go_ret2
  exact ⟨rfl, _, hb3.out, hown3.out, hv'.out, hT.out⟩
set_option maxHeartbeats 4000000 in
set_option maxRecDepth 100000 in
theorem bxString (g : Nat) (c0 p v c3 : Value) (tx : List UInt8) (w : World) (hb : Box w g 193 [c0, p, v, c3]) (hown : w.ownsRowF 0 5 1 v tx.length (u8s tx)) (hne : v.ownBlock ≠ some g) (h0 : tx ≠ []) :
    Calls Tryz.prog 107 #[.pointer (some ⟨g, 1, none⟩)] w fun e w' => e = .returned (.string ⟨tx.toArray⟩) ∧ Box w' g 193 [c0, p, v, c3] ∧ w'.ownsRowF 0 5 1 v tx.length (u8s tx) ∧ Turned g v.ownBlock w w' ∧ w'.heap.size = w.heap.size := by
  have hl0 : tx.length ≠ 0 := by simpa using h0
  have hown0 := hown
  obtain ⟨k, cap, cur, fz, rfl, _, hg, hfz, hnc, hcm, hcs, htake⟩ : ∃ k cap cur fz, v = .slice (some ⟨k, 0, none⟩) tx.length cap ∧ 0 ≤ k ∧ w.heap[k]? = some (.cells cur 5 fz) ∧ fz.2 ≤ tx.length * 1 ∧ tx.length ≤ cap ∧ cap ≤ maxLen ∧ cur.size = cap * 1 ∧ cur.toList.take (tx.length * 1) = u8s tx := by
    rcases hown.2 with ⟨_, hz⟩ | ⟨k, cap, cur, fz, hv, r⟩
    · exact absurd hz hl0
    · exact ⟨k, cap, cur, fz, hv, r⟩
  have k2 : w.drew.cell? ⟨g, 2, none⟩ = some (.slice (some ⟨k, 0, none⟩) tx.length cap) := hb.cell (i := 2) rfl
  have hSD : (Builtin.unsafeSliceData_ #[22] 129 #[.slice (some ⟨k, 0, none⟩) tx.length cap]).run Tryz.prog w.drew = .ok (.pointer (some ⟨k, 0, none⟩)) w.drew :=
    Lib.run_unsafeSliceData_row _ _ _ _ _ _ (by omega)
  have hUS : (Builtin.unsafeString_ #[129, 3] 9 #[.pointer (some ⟨k, 0, none⟩), .int .i64 tx.length]).run Tryz.prog w.drew = .ok (.string ⟨tx.toArray⟩) (w.drew.freeze ⟨k, 0, none⟩ tx.length) := by
    refine Lib.run_unsafeString_row w.drew 129 3 9 5 Tryz.underlying129 (by kernel_rfl) k cur.size (by have hg' : w.drew.heap[k]? = some (.cells cur 5 fz) := hg; simp [World.shape?, hg']) tx h0 (by omega) (by unfold maxLen at hcm; omega) ?_
    intro j x hx
    have := hown.cells (g := k) rfl j (.int .u8 x.toNat) (by simp [u8s, Lib.byteCells, hx])
    exact this
  have hkg : k ≠ g := fun e => hne (by rw [e]; rfl)
  have hfr : ∀ b, b ≠ k → (w.drew.freeze ⟨k, 0, none⟩ tx.length).heap[b]? = w.heap[b]? := fun b hb => by
    have := (Lib.below_freeze (B := k) (Below.refl k w.drew) (p := ⟨k, 0, none⟩) (Nat.le_refl _) tx.length)
    unfold World.freeze
    split
    · rfl
    · simp only [Array.getElem?_modify]
      rw [if_neg (fun e => hb e.symm)]
      rfl
  have hsz : (w.drew.freeze ⟨k, 0, none⟩ tx.length).heap.size = w.heap.size := by
    unfold World.freeze
    split
    · rfl
    · simp
  have hkk : ∃ fz', (w.drew.freeze ⟨k, 0, none⟩ tx.length).heap[k]? = some (.cells cur 5 fz') ∧ fz'.2 ≤ tx.length * 1 := by
    have hg' : w.drew.heap[k]? = some (.cells cur 5 fz) := hg
    unfold World.freeze
    split
    · exact ⟨fz, hg', hfz⟩
    · simp only [Array.getElem?_modify, if_true, hg', Option.map_some]
      refine ⟨_, rfl, ?_⟩
      obtain ⟨lo, hi⟩ := fz
      simp only at hfz ⊢
      split
      · simp
      · simp; omega
  obtain ⟨fz', hk', hfz'⟩ := hkk
  have hB : Hid (Box (w.drew.freeze ⟨k, 0, none⟩ tx.length) g 193 [c0, p, .slice (some ⟨k, 0, none⟩) tx.length cap, c3]) := hb.keep (hfr g (fun e => hkg e.symm))
  have hO : Hid ((w.drew.freeze ⟨k, 0, none⟩ tx.length).ownsRowF 0 5 1 (.slice (some ⟨k, 0, none⟩) tx.length cap) tx.length (u8s tx)) := ⟨hown.1, .inr ⟨k, cap, cur, fz', rfl, Nat.zero_le _, hk', hfz', hnc, hcm, hcs, htake⟩⟩
  have hT : Hid (Turned g (Value.slice (some ⟨k, 0, none⟩) tx.length cap).ownBlock w (w.drew.freeze ⟨k, 0, none⟩ tx.length)) := by
    have hb := Lib.below_freeze (B := 0) (Below.drew (Below.refl 0 w)) (p := ⟨k, 0, none⟩) (Nat.zero_le _) tx.length
    exact ⟨hb.os, hb.tape, hb.output, hb.size, fun b _ _ hr => hfr b (fun e => hr (by rw [e]; rfl))⟩
  replace hsz := Lib.hid hsz
  clear hfr hk' hown hown0
  have mixed : Tryz.prog.follows Departure.mixedOrders = true := by kernel_rfl
  go_enter Tryz.func107, Tryz.ntmps107
  go_wp2
  go_region_o
  all_goals (go_wp2; go_ret; exact ⟨rfl, hB.out, hO.out, hT.out, hsz.out⟩)
end Go.Proofs.YteefodibpjgicaaGreat

namespace Go.Proofs.YteefodibpjgicaaGreat
namespace M3
theorem cat_data (s t : ByteArray) : (cat s t).data.toList = s.data.toList ++ t.data.toList := by simp [cat]
theorem nilB_data' (s : ByteArray) : nilB s = s.data.toList.isEmpty := by unfold nilB; rw [ByteArray.toList_eq]
theorem nilB_cat (s t : ByteArray) : nilB (cat s t) = (nilB s && nilB t) := by
  rw [nilB_data', nilB_data', nilB_data', cat_data]
  cases s.data.toList <;> cases t.data.toList <;> rfl
theorem cat_assoc (s t u : ByteArray) : cat (cat s t) u = cat s (cat t u) := by simp [cat]
theorem cat_nil (s : ByteArray) : cat s ⟨#[]⟩ = s := by cases s; simp [cat]
theorem withText_self (x : Nd) : withText x x.text = x := by cases x; rfl
theorem withText_kind (x : Nd) (t : ByteArray) : (withText x t).kind = x.kind := by cases x; rfl
theorem withText_text (x : Nd) (t : ByteArray) : (withText x t).text = t := by cases x; rfl
theorem withText_kids (x : Nd) (t : ByteArray) : (withText x t).kids = x.kids := by cases x; rfl
theorem withText_attrs (x : Nd) (t : ByteArray) : (withText x t).attrs = x.attrs := by cases x; rfl
theorem withText_name (x : Nd) (t : ByteArray) : (withText x t).name = x.name := by cases x; rfl
theorem withText_two (x : Nd) (s t : ByteArray) : withText (withText x s) t = withText x t := by cases x; rfl
def isText (x : Nd) : Bool := x.kind == 2
def bareB (x : Nd) : Bool := isText x && nilB x.text
theorem bareB_iff {x : Nd} : bareB x = true ↔ x.kind = 2 ∧ nilB x.text = true := by simp [bareB, isText]
theorem push_bare {out : List Nd} {x : Nd} (h : bareB x = true) : push out x = out := by unfold push; rw [if_pos (bareB_iff.1 h)]
theorem push_none {x : Nd} (h : bareB x = false) : push [] x = [x] := by
  unfold push
  rw [if_neg (by rw [← bareB_iff]; simp [h])]
  rfl
theorem push_snoc {out : List Nd} {x y : Nd} (h : bareB x = false) : push (out ++ [y]) x = if isText x && isText y then out ++ [withText y (cat y.text x.text)] else out ++ [y] ++ [x] := by
  unfold push
  rw [if_neg (by rw [← bareB_iff]; simp [h])]
  simp [isText]
def joinT : List Nd → ByteArray
  | [] => ⟨#[]⟩
  | x :: r => if isText x then cat x.text (joinT r) else ⟨#[]⟩
def runT (l : List Nd) : Nat := (l.takeWhile isText).length
theorem joinT_yes {x : Nd} (r : List Nd) (h : isText x = true) : joinT (x :: r) = cat x.text (joinT r) := by rw [joinT, if_pos h]
theorem joinT_no {x : Nd} (r : List Nd) (h : isText x = false) : joinT (x :: r) = ⟨#[]⟩ := by rw [joinT, if_neg (by simp [h])]
theorem runT_yes {x : Nd} (r : List Nd) (h : isText x = true) : runT (x :: r) = runT r + 1 := by simp [runT, h]
theorem runT_no {x : Nd} (r : List Nd) (h : isText x = false) : runT (x :: r) = 0 := by simp [runT, h]
def front : List Nd → List Nd
  | [] => []
  | x :: r => if isText x then withText x (cat x.text (joinT r)) :: front (r.drop (runT r)) else x :: front r
termination_by l => l.length
decreasing_by
  · simp only [List.length_drop, List.length_cons]; omega
  · simp
theorem front_nil : front [] = [] := by rw [front]
theorem front_yes {x : Nd} (r : List Nd) (h : isText x = true) : front (x :: r) = withText x (joinT (x :: r)) :: front ((x :: r).drop (runT (x :: r))) := by
  rw [front, if_pos h, joinT_yes r h, runT_yes r h]
  rfl
theorem front_no {x : Nd} (r : List Nd) (h : isText x = false) : front (x :: r) = x :: front r := by rw [front, if_neg (by simp [h])]
theorem filled_cons (x : Nd) (l : List Nd) : filled (x :: l) = if bareB x then filled l else x :: filled l := by
  unfold filled
  rw [List.filter_cons]
  show (if (!(bareB x)) = true then _ else _) = _
  cases bareB x <;> rfl
theorem filled_all (l : List Nd) : ∀ x ∈ filled l, bareB x = false := by
  intro x hx
  have := (List.mem_filter.1 hx).2
  show bareB x = false
  change (!(bareB x)) = true at this
  simpa using this
theorem foldl_filled (l : List Nd) : ∀ out, l.foldl push out = (filled l).foldl push out := by
  induction l with
  | nil => intro out; rfl
  | cons x r ih =>
    intro out
    rw [filled_cons, List.foldl_cons]
    cases h : bareB x
    · simp only [Bool.false_eq_true, if_false, List.foldl_cons]; exact ih _
    · rw [push_bare h, if_pos rfl]; exact ih _
theorem fold_texts (l : List Nd) : ∀ (out : List Nd) (y : Nd), (∀ x ∈ l, bareB x = false) → isText y = true → l.foldl push (out ++ [y]) = (l.drop (runT l)).foldl push (out ++ [withText y (cat y.text (joinT l))]) := by
  induction l with
  | nil => intro out y _ _; rw [joinT, cat_nil, withText_self]; rfl
  | cons x r ih =>
    intro out y hb hy
    have hx := hb x (by simp)
    cases ht : isText x
    · rw [joinT_no r ht, runT_no r ht, cat_nil, withText_self]; rfl
    · rw [List.foldl_cons, push_snoc hx, ht, hy, Bool.and_true, if_pos rfl, ih _ _ (fun z hz => hb z (by simp [hz])) (by rw [isText, withText_kind]; exact hy), joinT_yes r ht, runT_yes r ht, withText_text, withText_two, cat_assoc]
      rfl
theorem drop_run_head (l : List Nd) : ∀ x, (l.drop (runT l)).head? = some x → isText x = false := by
  induction l with
  | nil => intro x h; simp at h
  | cons y r ih =>
    intro x h
    cases ht : isText y
    · rw [runT_no r ht] at h; simp at h; subst h; exact ht
    · rw [runT_yes r ht] at h; exact ih x (by simpa using h)
theorem fold_front (n : Nat) : ∀ (l out : List Nd), l.length ≤ n → (∀ x ∈ l, bareB x = false) → (∀ y x, out.getLast? = some y → l.head? = some x → (isText x && isText y) = false) → l.foldl push out = out ++ front l := by
  induction n with
  | zero => intro l out hl _ _; obtain rfl : l = [] := List.eq_nil_of_length_eq_zero (by omega); rw [front_nil]; simp
  | succ n ih =>
    intro l out hl hb hj
    cases l with
    | nil => rw [front_nil]; simp
    | cons x r =>
      have hx := hb x (by simp)
      have hp : push out x = out ++ [x] := by
        rcases List.eq_nil_or_concat out with rfl | ⟨o, y, rfl⟩
        · rw [push_none hx]; rfl
        · rw [List.concat_eq_append, push_snoc hx, hj y x (by simp) rfl]; simp
      rw [List.foldl_cons, hp]
      cases ht : isText x
      · rw [front_no r ht, ih r _ (by simpa using hl) (fun z hz => hb z (by simp [hz])) (fun y z hy hz => by simp at hy; subst hy; rw [ht, Bool.and_false]), List.append_assoc]; rfl
      · rw [fold_texts r out x (fun z hz => hb z (by simp [hz])) ht, ih _ _ (by simp at hl ⊢; omega) (fun z hz => hb z (by simp [List.mem_of_mem_drop hz])) (fun y z hy hz => by rw [drop_run_head r z hz]; rfl), front_yes r ht, joinT_yes r ht, runT_yes r ht, List.append_assoc]
        rfl
theorem merge_front (l : List Nd) : merge l = front (filled l) := by
  unfold merge
  rw [foldl_filled, fold_front _ _ [] (Nat.le_refl _) (filled_all l) (fun y x hy => by simp at hy)]
  rfl
def apart : Bool → List Nd → Bool
  | _, [] => true
  | p, x :: r => !(isText x && (nilB x.text || p)) && apart (isText x) r
theorem apart_iff {p : Bool} {x : Nd} {r : List Nd} : apart p (x :: r) = true ↔ (isText x = true → nilB x.text = false ∧ p = false) ∧ apart (isText x) r = true := by
  rw [apart]
  cases isText x <;> cases nilB x.text <;> cases p <;> simp
theorem apart_weak {p : Bool} {l : List Nd} (h : apart p l = true) : apart false l = true := by
  cases l with
  | nil => rfl
  | cons x r => rw [apart_iff] at h ⊢; exact ⟨fun a => ⟨(h.1 a).1, rfl⟩, h.2⟩
theorem merge_apart (l : List Nd) : ∀ out : List Nd, (∀ y, out.getLast? = some y → apart (isText y) l = true) → apart false l = true → l.foldl push out = out ++ l := by
  induction l with
  | nil => intro out _ _; simp
  | cons x r ih =>
    intro out h1 h2
    rw [apart_iff] at h2
    have hx : bareB x = false := by
      rw [bareB]; cases ht : isText x
      · rfl
      · rw [(h2.1 ht).1]; rfl
    have hp : push out x = out ++ [x] := by
      rcases List.eq_nil_or_concat out with rfl | ⟨o, y, rfl⟩
      · rw [push_none hx]; rfl
      · rw [List.concat_eq_append] at h1 ⊢
        have h3 := h1 y (by simp)
        rw [apart_iff] at h3
        rw [push_snoc hx]
        have : (isText x && isText y) = false := by
          cases ht : isText x
          · rfl
          · rw [(h3.1 ht).2]; rfl
        rw [this]; simp
    rw [List.foldl_cons, hp, ih _ (fun y hy => by simp at hy; subst hy; exact h2.2) (apart_weak h2.2)]
    simp
theorem apart_front (n : Nat) : ∀ (l : List Nd) (p : Bool), l.length ≤ n → (∀ x ∈ l, bareB x = false) → (∀ x, l.head? = some x → (isText x && p) = false) → apart p (front l) = true := by
  induction n with
  | zero => intro l p hl _ _; obtain rfl : l = [] := List.eq_nil_of_length_eq_zero (by omega); rw [front_nil]; rfl
  | succ n ih =>
    intro l p hl hb hj
    cases l with
    | nil => rw [front_nil]; rfl
    | cons x r =>
      have hx := hb x (by simp)
      have hjx := hj x rfl
      cases ht : isText x
      · rw [front_no r ht, apart, ih r _ (by simpa using hl) (fun z hz => hb z (by simp [hz])) (fun z _ => by rw [ht, Bool.and_false]), ht]; rfl
      · have h1 : isText (withText x (joinT (x :: r))) = true := by rw [isText, withText_kind]; exact ht
        have h2 : nilB (joinT (x :: r)) = false := by
          rw [joinT_yes r ht, nilB_cat]
          have : nilB x.text = false := by rw [bareB, ht] at hx; simpa using hx
          rw [this]; rfl
        rw [ht, Bool.true_and] at hjx
        rw [front_yes r ht, apart, h1, withText_text, h2, hjx, ih _ _ (by rw [runT_yes r ht]; simp at hl ⊢; omega) (fun z hz => hb z (List.mem_of_mem_drop hz)) (fun z hz => by rw [drop_run_head (x :: r) z hz]; rfl)]
        rfl
theorem merge_apart' (l : List Nd) : apart false (merge l) = true := by
  rw [merge_front]
  exact apart_front _ _ _ (Nat.le_refl _) (filled_all l) (fun x _ => Bool.and_false _)
theorem merge_all {P : Nd → Prop} (hP : ∀ x y, P x → P y → isText x = true → isText y = true → P (withText x (cat x.text y.text))) (l : List Nd) (h : ∀ x ∈ l, P x) : ∀ x ∈ merge l, P x := by
  have key : ∀ (l out : List Nd), (∀ x ∈ l, P x) → (∀ x ∈ out, P x) → ∀ x ∈ l.foldl push out, P x := by
    intro l
    induction l with
    | nil => intro out _ ho; exact ho
    | cons x r ih =>
      intro out hl ho
      rw [List.foldl_cons]
      refine ih _ (fun z hz => hl z (by simp [hz])) ?_
      have hx := hl x (by simp)
      cases hb : bareB x
      · rcases List.eq_nil_or_concat out with rfl | ⟨o, y, rfl⟩
        · rw [push_none hb]; simpa using hx
        · rw [List.concat_eq_append] at ho ⊢
          rw [push_snoc hb]
          split
          · rename_i hc
            simp at hc
            intro z hz
            rcases List.mem_append.1 hz with hz | hz
            · exact ho z (by simp [hz])
            · simp at hz; subst hz
              exact hP y x (ho y (by simp)) hx hc.2 hc.1
          · intro z hz
            rcases List.mem_append.1 hz with hz | hz
            · exact ho z hz
            · simp at hz; subst hz; exact hx
      · rw [push_bare hb]; exact ho
  exact key l [] h (fun x hx => by cases hx)
def okP (x : Nd) : Prop := if isText x then plainB x = true ∧ M1.isB x.text.data.toList = true else oneE x false = 0 ∧ mayE false x.kids = 0
theorem plain_kids {x : Nd} (h : plainB x = true) : x.kids = [] := by simp [plainB] at h; exact h.2
theorem may_of_ok (l : List Nd) : ∀ p, (∀ x ∈ l, okP x) → apart p l = true → mayE p l = 0 := by
  induction l with
  | nil => intro p _ _; exact mayE_nil p
  | cons x r ih =>
    intro p h hap
    have hx := h x (by simp)
    rw [apart_iff] at hap
    rw [mayE_cons]
    unfold okP at hx
    cases ht : isText x
    · rw [ht] at hx
      simp only [Bool.false_eq_true, if_false] at hx
      have h1 : oneE x p = oneE x false := by
        have : ¬ x.kind = 2 := by simpa [isText] using ht
        unfold oneE
        rw [if_neg this, if_neg this]
      have h2 : (x.kind == 2) = false := ht
      rw [h1, hx.1, hx.2, h2]
      simp only [ne_eq, not_true_eq_false, if_false]
      exact ih false (fun z hz => h z (by simp [hz])) (by have h := hap.2; rwa [ht] at h)
    · rw [ht, if_pos rfl] at hx
      have hk : x.kind = 2 := by simpa [isText] using ht
      have h1 : oneE x p = 0 := by
        unfold oneE
        rw [if_neg (by omega), if_pos hk, if_pos hx.1, hx.2, (hap.1 ht).1, (hap.1 ht).2]
        rfl
      rw [h1, plain_kids hx.1, mayE_nil]
      have h2 : (x.kind == 2) = true := ht
      rw [h2]
      simp only [ne_eq, not_true_eq_false, if_false]
      exact ih true (fun z hz => h z (by simp [hz])) (by have h := hap.2; rwa [ht] at h)
theorem isB_append {a b : List UInt8} (ha : M1.isB a = true) (hb : M1.isB b = true) : M1.isB (a ++ b) = true := by
  rw [← (M1.isB_right_iff a).1 ha, ← (M1.isB_right_iff b).1 hb]
  exact M1.isB_join a b
theorem okP_cat (x y : Nd) (hx : okP x) (hy : okP y) (h1 : isText x = true) (h2 : isText y = true) : okP (withText x (cat x.text y.text)) := by
  have ht : isText (withText x (cat x.text y.text)) = true := by rw [isText, withText_kind]; exact h1
  unfold okP at *
  rw [h1, if_pos rfl] at hx
  rw [h2, if_pos rfl] at hy
  rw [ht, if_pos rfl]
  refine ⟨?_, ?_⟩
  · have := hx.1; cases x; exact this
  · rw [withText_text, cat_data]; exact isB_append hx.2 hy.2
theorem may_merge (l : List Nd) (h : ∀ x ∈ l, okP x) : mayE false (merge l) = 0 := may_of_ok _ _ (merge_all okP_cat l h) (merge_apart' l)
end M3
end Go.Proofs.YteefodibpjgicaaGreat
