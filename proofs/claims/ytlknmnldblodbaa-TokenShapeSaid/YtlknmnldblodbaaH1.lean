/- Texts joined: Builder, Kit, Math1, Math1b, Ref01, Ref01b, Ref01c, Strs, Kit2, Math2. -/
import Derived.Shelf.Strings.BuilderK
import Derived.Shelf.Strings.BuilderRune
import Derived.Shelf.Strings.Prefix
import Derived.WalkKit
import Derived.Test.YtlknmnldblodbaaRows
import Derived.WalkSpells
import Derived.WalkLawsBesides
import Derived.Lib.ConvBytes
import Derived.Lib.UnsafeStr
import Derived.Lib.OthersKept
import Derived.Lib.Hide
import Derived.Lib.Strings
import Derived.WalkSmall
import Derived.Laws.AppendOwnNone
import Derived.Lib.RuneBytes
import GoSem.Core.Utf8
import Derived.BigCall
import Derived.Deep.QuietTactic
import Derived.BigQuiet
import Derived.Deep.DeepCutAuto
import Derived.Lib.Bytealg
import Derived.Shelf.Strconv.Clone
import Derived.Lib.IndexLaws
/- strings.Builder and strings.HasPrefix in this program: the library's contracts where they fit; copyCheck, WriteByte, WriteRune walked here (their bodies in this translation differ from the ones the shelf was made of). -/
namespace Go.Proofs.Ytlknmnldblodbaa
open Go.Shelf Go.RowKit
def Try.lays169_ren : Go.Shelf.Ren := ⟨fun | 169 => 84 | n => n, fun | 70 => 90 | 9 => 9 | 0 => 0 | 72 => 92 | 37 => 22 | 127 => 105 | 3 => 3 | 5 => 5 | n => n, fun | n => n⟩
theorem Try.lays169 : Go.Proofs.Lays.n169 Try.prog Try.lays169_ren := {
  mixed := by kernel_rfl
  f169 := Try.func84.trans (congrArg some (by kernel_rfl))
  t0 := Try.underlying0
  a0 := Try.isAgg0
  z0 := Try.sizeOf0
  v0 := Try.zeroValue0
  t3 := Try.underlying3
  a3 := Try.isAgg3
  z3 := Try.sizeOf3
  v3 := Try.zeroValue3
  t9 := Try.underlying9
  a9 := Try.isAgg9
  z9 := Try.sizeOf9
  v9 := Try.zeroValue9
  t37 := Try.underlying22
  a37 := Try.isAgg22
  z37 := Try.sizeOf22
  v37 := Try.zeroValue22
  t70 := Try.underlying90
  a70 := Try.isAgg90
  z70 := Try.sizeOf90
  v70 := Try.zeroValue90
  t72 := Try.underlying92
  a72 := Try.isAgg92
  z72 := Try.sizeOf92
  v72 := Try.zeroValue92
  t127 := Try.underlying105
  a127 := Try.isAgg105
  z127 := Try.sizeOf105
  v127 := Try.zeroValue105 }
theorem Try.Builder_Extra_169 : Builder.Extra Try.prog Try.lays169_ren := {
  sizeBuilder := by kernel_rfl
  liesBuilder := by kernel_rfl
  t5 := Try.underlying5
  a5 := Try.isAgg5
  z5 := Try.sizeOf5
  v5 := Try.zeroValue5
  infoByte := by kernel_rfl
  cellsByte := by kernel_rfl
  sizeByte := by kernel_rfl
  neB5 := by decide }
theorem bString (B b : Nat) (l : List UInt8) (w : World) (h : Lib.IsBuilderF 92 5 B b (Lib.byteCells l) w) (hBw : B ≤ w.heap.size) :
    Calls Try.prog 84 #[.pointer (some ⟨b, 0, none⟩)] w fun e w' => e = .returned (.string ⟨l.toArray⟩) ∧ (Lib.IsBuilderF 92 5 B b (Lib.byteCells l) w' ∧ Below B w w' ∧ Lib.OthersKept 5 (some b) w w') := Any.Builder_String_any_k Try.lays169 Try.Builder_Extra_169 B b l w h hBw

def Try.lays242_ren : Go.Shelf.Ren := ⟨fun | 242 => 103 | 278 => 111 | n => n, fun | 37 => 22 | 21 => 21 | 51 => 114 | 4 => 4 | 5 => 5 | 46 => 116 | 72 => 92 | n => n, fun | n => n⟩
theorem Try.lays242 : Go.Proofs.Lays.n242 Try.prog Try.lays242_ren := {
  mixed := by kernel_rfl
  f242 := Try.func103.trans (congrArg some (by kernel_rfl))
  f278 := Try.func111.trans (congrArg some (by kernel_rfl))
  t4 := Try.underlying4
  a4 := Try.isAgg4
  z4 := Try.sizeOf4
  v4 := Try.zeroValue4
  t5 := Try.underlying5
  a5 := Try.isAgg5
  z5 := Try.sizeOf5
  v5 := Try.zeroValue5
  t21 := Try.underlying21
  a21 := Try.isAgg21
  z21 := Try.sizeOf21
  v21 := Try.zeroValue21
  t37 := Try.underlying22
  a37 := Try.isAgg22
  z37 := Try.sizeOf22
  v37 := Try.zeroValue22
  t46 := Try.underlying116
  a46 := Try.isAgg116
  z46 := Try.sizeOf116
  v46 := Try.zeroValue116
  t51 := Try.underlying114
  a51 := Try.isAgg114
  z51 := Try.sizeOf114
  v51 := Try.zeroValue114 }
theorem Try.Builder_Extra_242 : Builder.Extra Try.prog Try.lays242_ren := {
  sizeBuilder := by kernel_rfl
  liesBuilder := by kernel_rfl
  t5 := Try.underlying5
  a5 := Try.isAgg5
  z5 := Try.sizeOf5
  v5 := Try.zeroValue5
  infoByte := by kernel_rfl
  cellsByte := by kernel_rfl
  sizeByte := by kernel_rfl
  neB5 := by decide }
theorem u8AppendRune (B : Nat) (v : Value) (n : Nat) (xs : List Value) (r : Int) (hr0 : -2147483648 ≤ r) (hr1 : r ≤ 2147483647) (w : World) (hown : w.ownsRowF B 5 1 v n xs) (hlen : n + 4 ≤ 140737488355328) (hBw : B ≤ w.heap.size) :
    Calls Try.prog 103 #[v, .int .i32 r] w fun e w' => ∃ v', e = .returned v' ∧ w'.ownsRowF B 5 1 v' (n + (Lib.runeCells r).length) (xs ++ Lib.runeCells r) ∧ ∃ o, (w.alloc o).grownBy w' v.ownBlock :=
  Any.utf8_AppendRune_own Try.lays242 Try.Builder_Extra_242 B v n xs r hr0 hr1 w hown hlen hBw

def Try.lays206_ren : Go.Shelf.Ren := ⟨fun | 206 => 65 | n => n, fun | 9 => 9 | 4 => 4 | 3 => 3 | n => n, fun | n => n⟩
theorem Try.lays206 : Go.Proofs.Lays.n206 Try.prog Try.lays206_ren := {
  mixed := by kernel_rfl
  f206 := Try.func65.trans (congrArg some (by kernel_rfl))
  t3 := Try.underlying3
  a3 := Try.isAgg3
  z3 := Try.sizeOf3
  v3 := Try.zeroValue3
  t4 := Try.underlying4
  a4 := Try.isAgg4
  z4 := Try.sizeOf4
  v4 := Try.zeroValue4
  t9 := Try.underlying9
  a9 := Try.isAgg9
  z9 := Try.sizeOf9
  v9 := Try.zeroValue9 }
def Try.lays99_ren : Go.Shelf.Ren := ⟨fun | 99 => 37 | 206 => 65 | n => n, fun | 9 => 9 | 4 => 4 | 3 => 3 | n => n, fun | n => n⟩
theorem Try.lays99 : Go.Proofs.Lays.n99 Try.prog Try.lays99_ren := {
  mixed := by kernel_rfl
  f99 := Try.func37.trans (congrArg some (by kernel_rfl))
  f206 := Try.func65.trans (congrArg some (by kernel_rfl))
  t3 := Try.underlying3
  a3 := Try.isAgg3
  z3 := Try.sizeOf3
  v3 := Try.zeroValue3
  t4 := Try.underlying4
  a4 := Try.isAgg4
  z4 := Try.sizeOf4
  v4 := Try.zeroValue4
  t9 := Try.underlying9
  a9 := Try.isAgg9
  z9 := Try.sizeOf9
  v9 := Try.zeroValue9 }
theorem hasPrefix_any (s p : ByteArray) (w : World) :
    Calls Try.prog 37 #[.string s, .string p] w fun e w' => e = .returned (.bool (Lib.hasPrefix s.data.toList p.data.toList)) ∧ w' = w := Any.strings_HasPrefix Try.lays99 s p w

/-! ### copyCheck, WriteByte, WriteRune -/
theorem sizeB : (Try.prog.info? 92).map (·.size) = some 2 := by kernel_rfl

theorem infoU8 : (Try.prog.info? 5).map (fun i => (i.zero, i.size, i.bytes)) = some (some (.int .u8 0), 1, 1) := by kernel_rfl

set_option maxHeartbeats 1000000 in
set_option maxRecDepth 100000 in
theorem copyCheck_used (b : Nat) (w : World) (h0 : w.cell? ⟨b, 0, none⟩ = some (.pointer (some ⟨b, 0, none⟩))) :
    Calls Try.prog 100 #[.pointer (some ⟨b, 0, none⟩)] w fun e w' => e = .returned (.tuple #[]) ∧ w' = w := by
  obtain ⟨j, hj, _⟩ := Option.map_eq_some_iff.1 sizeB
  go_enter Try.func100, Try.ntmps100
  go_wp2
  rw [Lib.run_neq_ptr_same w _ Try.underlying90 hj]
  go_wp2
  go_end0
  exact ⟨rfl, rfl⟩

set_option maxHeartbeats 1000000 in
set_option maxRecDepth 100000 in
theorem copyCheck_fresh (b : Nat) (w : World) (h0 : w.cell? ⟨b, 0, none⟩ = some (.pointer none)) (hsh : w.shape? b = some (92, 2)) (hfz : w.frozen? ⟨b, 0, none⟩ = false) :
    Calls Try.prog 100 #[.pointer (some ⟨b, 0, none⟩)] w fun e w' => e = .returned (.tuple #[]) ∧ w' = w.setCell ⟨b, 0, none⟩ (.pointer (some ⟨b, 0, none⟩)) := by
  obtain ⟨j, hj, hjs⟩ := Option.map_eq_some_iff.1 sizeB
  go_enter Try.func100, Try.ntmps100
  go_wp2
  rw [Lib.run_to_unsafe w ⟨b, 0, none⟩ Try.underlying90 Try.underlying109 hj (by rw [hjs]; decide) hsh (Nat.zero_lt_succ 1)]
  simp only [Result.andThen]
  rw [Oper.upon_value]
  go_wp2
  rw [run_callFunc_extern Try.func108 (by kernel_rfl) (by kernel_rfl) (by kernel_rfl) (e := Extern.AbiNoEscape.same) (by kernel_rfl)]
  rw [Lib.run_noEscape]
  simp only [Result.andThen]
  rw [Oper.upon_value]
  go_wp2
  rw [Lib.run_from_unsafe w ⟨b, 0, none⟩ Try.underlying109 Try.underlying90 hj hsh (by kernel_rfl)]
  simp only [Result.andThen]
  rw [Oper.upon_value]
  go_wp2
  go_end0
  exact ⟨rfl, rfl⟩

theorem copyCheck_k (B b : Nat) (bs : List Value) (w : World) (h : Lib.IsBuilderF 92 5 B b bs w) :
    Calls Try.prog 100 #[.pointer (some ⟨b, 0, none⟩)] w fun e w' => e = .returned (.tuple #[]) ∧ (Lib.BuilderAtF 92 5 B b (.pointer (some ⟨b, 0, none⟩)) bs w' ∧ Below B w w' ∧ Lib.OthersKept 5 (some b) w w') := by
  rcases h with h | h
  · refine (copyCheck_fresh b w h.cell0 h.shape h.frozen0).mono ?_
    rintro e w' ⟨rfl, rfl⟩
    exact ⟨rfl, h.used _, (Below.refl B w).setCell (p := ⟨b, 0, none⟩) h.1 _, (Lib.OthersKept.refl _ _ w).setCell ⟨b, 0, none⟩ rfl _⟩
  · refine (copyCheck_used b w h.cell0).mono ?_
    rintro e w' ⟨rfl, rfl⟩
    exact ⟨rfl, h, Below.refl B _, Lib.OthersKept.refl _ _ _⟩

set_option maxHeartbeats 4000000 in
set_option maxRecDepth 100000 in
theorem bWriteRune (B b : Nat) (bs : List Value) (r : Int) (hr0 : -2147483648 ≤ r) (hr1 : r ≤ 2147483647) (w : World) (h : Lib.IsBuilderF 92 5 B b bs w) (hlen : bs.length + 4 ≤ 140737488355328) (hBw : B ≤ w.heap.size) :
    Calls Try.prog 86 #[.pointer (some ⟨b, 0, none⟩), .int .i32 r] w fun e w' => e = .returned (.tuple #[.int .i64 (Lib.runeCells r).length, .nilIface]) ∧ (Lib.BuilderAtF 92 5 B b (.pointer (some ⟨b, 0, none⟩)) (bs ++ Lib.runeCells r) w' ∧ Below B w w' ∧ Lib.OthersKept 5 (some b) w w') := by
  have hk4 := Lib.runeCells_le r
  go_enter Try.func86, Try.ntmps86
  go_wp2_with (go_at_call 100; refine (copyCheck_k B b bs _ h).mono ?_)
  rintro e w1 ⟨rfl, h1, hb1, hk1⟩
  obtain ⟨hB, v, hbk, hown, hne⟩ := h1
  obtain ⟨ao, cap, rfl⟩ : ∃ ao cap, v = .slice ao bs.length cap := by
    rcases hown.2 with ⟨hv, h0⟩ | ⟨g, cap, cur, fz, hv, _⟩
    · exact ⟨none, 0, by rw [hv, h0]⟩
    · exact ⟨_, _, hv⟩
  have c0 : w1.cell? ⟨b, 0, none⟩ = some (.pointer (some ⟨b, 0, none⟩)) := by rw [Lib.cell_of_heap hbk]; rfl
  have c1 : w1.cell? ⟨b, 1, none⟩ = some (.slice ao bs.length cap) := by rw [Lib.cell_of_heap hbk]; rfl
  go_wp2_with (go_at_call 103; refine (u8AppendRune B _ bs.length bs r hr0 hr1 _ hown hlen (by have := hb1.size; omega)).mono ?_)
  rintro e w2 ⟨v', rfl, hown', o, hgrow⟩
  have hlt : b < w1.heap.size := by
    rcases Nat.lt_or_ge b w1.heap.size with h' | h'
    · exact h'
    · simp [Array.getElem?_eq_none h'] at hbk
  have hb2 : w2.heap[b]? = some (.cells #[.pointer (some ⟨b, 0, none⟩), .slice ao bs.length cap] 92 (0, 0)) := by
    rw [hgrow.block b (by simp; omega) (fun e => hne e.symm), Lib.alloc_old w1 _ b hlt]
    exact hbk
  have d0 : w2.cell? ⟨b, 0, none⟩ = some (.pointer (some ⟨b, 0, none⟩)) := by rw [Lib.cell_of_heap hb2]; rfl
  have d1 : w2.cell? ⟨b, 1, none⟩ = some (.slice ao bs.length cap) := by rw [Lib.cell_of_heap hb2]; rfl
  have f1 : w2.frozen? ⟨b, 1, none⟩ = false := Lib.frozen_of_heap hb2 1
  obtain ⟨g, cap', rfl⟩ : ∃ g cap', v' = .slice (some ⟨g, 0, none⟩) (bs.length + (Lib.runeCells r).length) cap' := by
    rcases hown'.2 with ⟨_, h0⟩ | ⟨g, cap', cur, fz, hv, _⟩
    · omega
    · exact ⟨g, cap', hv⟩
  go_wp2
  go_ret2
  refine ⟨?_, ?_, ?_, ((hk1.alloc _).grown hgrow (Lib.ownsRowF_kind (hown.alloc _))).setCell ⟨b, 1, none⟩ rfl _⟩
  · have e : ((bs.length : Int) + ((Lib.runeCells r).length : Int) - (bs.length : Int)) = ((Lib.runeCells r).length : Int) := by omega
    simp [e]
  · exact Lib.BuilderAtF.put (T := 92) (e := 5) hB hb2 (bs' := bs ++ Lib.runeCells r) (by simpa using hown') (by decide)
  · exact ((hb1.alloc (by have := hb1.size; omega) _).grown hgrow (by have := hb1.size; simp; omega) (fun k hk => (hown.lt k hk).1)).setCell (p := ⟨b, 1, none⟩) hB _
end Go.Proofs.Ytlknmnldblodbaa

/- Small words for slices that a call reads or makes, one cell an element; and what a conversion of a text leaves. -/
namespace Go.Proofs.Ytlknmnldblodbaa
open Go.RowKit

theorem ne_of_lt {α : Type} {xs : List α} {k : Nat} (h : k < xs.length) : xs ≠ [] := fun e => by subst e; simp at h
/-- The slice v reads in w as xs (one cell an element). -/
def Sl (w : World) (v : Value) (xs : List Value) : Prop :=
  ∃ (a : Option Addr) (cap : Nat), v = .slice a xs.length cap ∧ xs.length ≤ cap ∧ cap ≤ 9223372036854775807 ∧ (a = none → cap = 0) ∧
    (xs ≠ [] → ∃ b off, a = some ⟨b, off, none⟩ ∧ ∀ j (h : j < xs.length), w.cell? ⟨b, off + j, none⟩ = some xs[j])

abbrev u8s (l : List UInt8) : List Value := Lib.byteCells l
theorem u8s_append (a b : List UInt8) : u8s (a ++ b) = u8s a ++ u8s b := Lib.byteCells_append a b
@[simp] theorem u8s_length (a : List UInt8) : (u8s a).length = a.length := Lib.byteCells_length a
theorem u8s_get (a : List UInt8) (k : Nat) (c : UInt8) (h : a[k]? = some c) : (u8s a)[k]? = some (.int .u8 (c.toNat : Int)) := by simp [u8s, Lib.byteCells, h]
theorem u8s_set (a : List UInt8) (k : Nat) (c : UInt8) : (u8s a).set k (.int .u8 (c.toNat : Int)) = u8s (a.set k c) := by simp [u8s, Lib.byteCells, List.map_set]
def i32s (l : List Int) : List Value := l.map (Value.int .i32)
@[simp] theorem i32s_length (l : List Int) : (i32s l).length = l.length := by simp [i32s]
theorem i32s_append (a b : List Int) : i32s (a ++ b) = i32s a ++ i32s b := by simp [i32s]

theorem Sl.below {w w' : World} {v : Value} {xs : List Value} (h : Sl w v xs) (hb : Below w.heap.size w w') : Sl w' v xs := by
  obtain ⟨a, cap, h1, h2, h3, h4, h5⟩ := h
  refine ⟨a, cap, h1, h2, h3, h4, fun hne => ?_⟩
  obtain ⟨b, off, h6, h7⟩ := h5 hne
  refine ⟨b, off, h6, fun j hj => ?_⟩
  have h8 := h7 j hj
  rw [hb.cell (World.block_lt_of_cell? w _ h8)]
  exact h8

theorem Sl.nil (w : World) : Sl w (.slice none 0 0) [] := ⟨none, 0, rfl, Nat.le_refl _, by omega, fun _ => rfl, fun h => absurd rfl h⟩

theorem Sl.own {w : World} {B : Nat} {e : TypeId} {v : Value} {n : Nat} {xs : List Value} (h : w.ownsRow B e 1 v n xs) : Sl w v xs := by
  have hn : xs.length = n := by have := h.1; omega
  have hc := fun g hg => h.cells (g := g) hg
  rcases h.2 with ⟨rfl, h0⟩ | ⟨g, cap, cur, rfl, _, hg, h1, h2, h3, h4⟩
  · have : xs = [] := List.eq_nil_of_length_eq_zero (by omega)
    subst this
    exact Sl.nil w
  · unfold maxLen at h2
    refine ⟨some ⟨g, 0, none⟩, cap, by rw [hn], by omega, by omega, (fun h => by cases h), fun _ => ⟨g, 0, rfl, fun j hj => ?_⟩⟩
    have h5 := hc g rfl j xs[j] (List.getElem?_eq_getElem hj)
    have hplain : (⟨g, 0, none⟩ : Addr).add j = ⟨g, 0 + j, none⟩ := by unfold Addr.add; split <;> simp_all
    rwa [hplain] at h5

/-- Behind '[]byte(s)'. -/
theorem Sl.bytes (w : World) (e : TypeId) (s : ByteArray) (hs : s.size ≤ 9223372036854775807) :
    Sl (Lib.bytesWorld w e s) (.slice (some ⟨w.heap.size, 0, none⟩) s.size (grownCap w s.size 0 e)) (u8s s.data.toList) := by
  have hl : (u8s s.data.toList).length = s.size := by rw [u8s, Lib.byteCells_length]; rfl
  have h1 := grownCap_ge w s.size 0 e
  have h2 := grownCap_le_maxLen w s.size 0 e (by unfold maxLen; omega)
  unfold maxLen at h2
  refine ⟨_, _, by rw [hl], by omega, by omega, (fun h => by cases h), fun _ => ⟨_, 0, rfl, fun j hj => ?_⟩⟩
  rw [Nat.zero_add, Lib.bytesWorld_cell w e s j (by omega)]
  have hj' : j < s.data.toList.length := by rw [hl] at hj; exact hj
  simp [u8s, Lib.byteCells, List.getD_eq_getElem?_getD, List.getElem?_eq_getElem hj']

theorem below_bytesWorld (w : World) (e : TypeId) (s : ByteArray) : Below w.heap.size w (Lib.bytesWorld w e s) :=
  ⟨by simp [Lib.bytesWorld, World.freeze, World.alloc, World.drew, -World.alloc_eq, -World.drew_eq], by simp [Lib.bytesWorld, World.freeze, World.alloc, World.drew, -World.alloc_eq, -World.drew_eq],
    by simp [Lib.bytesWorld, World.freeze, World.alloc, World.drew, -World.alloc_eq, -World.drew_eq], by rw [Lib.bytesWorld_size]; omega, fun k hk => Lib.bytesWorld_at_old w e s k hk⟩

/-- 'string(b)'. -/
theorem Sl.toString {P : Program} {w : World} {v : Value} {l : List UInt8} (h : Sl w v (u8s l)) (src dst e : TypeId) (hs : P.underlying src = some (.slice e)) (he : P.underlying e = some (.int .u8)) (hd : P.underlying dst = some .string) :
    (convert src dst v).run P w = .ok (.string ⟨l.toArray⟩) w := by
  obtain ⟨a, cap, rfl, h2, h3, h4, h5⟩ := h
  have hl : (u8s l).length = l.length := Lib.byteCells_length l
  cases a with
  | none =>
    have : l = [] := List.eq_nil_of_length_eq_zero (by have := h4 rfl; omega)
    subst this
    rw [run_convert_bytes_nil w src e hs he _ _ dst hd]
    rfl
  | some a =>
    rw [hl]
    refine run_convert_bytes_back w src dst e a cap l hs he hd fun j hj => ?_
    obtain ⟨b, off, h6, h7⟩ := h5 (fun h0 => by rw [h0] at hl; simp at hl; omega)
    cases h6
    have hplain : (⟨b, off, none⟩ : Addr).add j = ⟨b, off + j, none⟩ := by unfold Addr.add; split <;> simp_all
    rw [hplain, h7 j (by omega)]
    simp [u8s, Lib.byteCells]

/-- 'grownBy' from before a new block on. -/
theorem grownBy_of_alloc {w w2 : World} {o : Obj} {row : Option Nat} (h : (w.alloc o).grownBy w2 row) : w.grownBy w2 row :=
  ⟨h.os, h.tape, h.output, Nat.le_trans (by simp) h.size, fun k hk hne => by rw [h.block k (by simp; omega) hne]; exact Lib.alloc_old w o k hk⟩

/-- 'append(s, x)' of one element of one cell onto a row that the call owns. -/
theorem wpList_app1 {P : Program} {ops : Array Oper} {rest : List Oper} {o : Oper} {a : Act} {Q : Exit → Act → World → Prop} (w1 : World) (x : Value) (hgd : o.guard = none) (s y : Operand) (t e : TypeId)
    (ho : o.op = .call { callee := .builtin .append, args := #[s, y], argTypes := #[t, t] }) (base : Nat) {z : Value} {bytes : Nat} (ht : P.underlying t = some (.slice e))
    (hinfo : (P.info? e).map (fun i => (i.zero, i.size, i.bytes)) = some (some z, 1, bytes)) (hz : z.cells.size = 1)
    (v : Value) (n : Nat) (xs : List Value) (hs : a.eval s = v) (hown : w1.ownsRow base e 1 v n xs) (hx : a.eval y = .slice (some ⟨w1.heap.size, 0, none⟩) 1 1) (h1 : x.oneCell' = true)
    (h63 : n + 1 ≤ 9223372036854775807) (hbytes : (n + 1) * bytes ≤ 140737488355328) (hbase : base ≤ w1.heap.size)
    (h : ∀ v' w2, w2.ownsRow base e 1 v' (n + 1) (xs ++ [x]) → w1.grownBy w2 v.ownBlock → wpList P ops Q rest (a.put o.dst v') w2) : wpList P ops Q (o :: rest) a (w1.alloc (.cells #[x] e)) := by
  obtain ⟨i, hi, hz0, hz1, hz2⟩ := info_parts hinfo
  refine wpList_append_own _ hgd s y t ho base e i z 1 bytes ht hi hz0 hz1 hz2 hz (by decide) v n xs hs (hown.alloc _) ⟨w1.heap.size, 0, none⟩ 1 1 [x] hx rfl ?_ ?_ (by unfold maxLen; omega) hbytes (by simp; omega) ?_
  · intro j u hj
    match j, hj with
    | 0, hj => simp at hj; subst hj; simp [Addr.add]
  · intro u hu; simp at hu; subst hu; exact h1
  · intro v' w2 h2 h3 _
    exact h v' w2 h2 (grownBy_of_alloc h3)

/-- 'append(s, y...)' onto a row that the call owns; y reads as ys. -/
theorem wpList_appSl {P : Program} {ops : Array Oper} {rest : List Oper} {o : Oper} {a : Act} {Q : Exit → Act → World → Prop} (w1 : World) (hgd : o.guard = none) (s y : Operand) (t e : TypeId)
    (ho : o.op = .call { callee := .builtin .append, args := #[s, y], argTypes := #[t, t] }) (base : Nat) {z : Value} {bytes : Nat} (ht : P.underlying t = some (.slice e))
    (hinfo : (P.info? e).map (fun i => (i.zero, i.size, i.bytes)) = some (some z, 1, bytes)) (hz : z.cells.size = 1)
    (v : Value) (n : Nat) (xs : List Value) (hs : a.eval s = v) (hown : w1.ownsRow base e 1 v n xs) (yv : Value) (ys : List Value) (hy : a.eval y = yv) (hx : Sl w1 yv ys) (h1 : ∀ u ∈ ys, u.oneCell' = true)
    (h63 : n + ys.length ≤ 9223372036854775807) (hbytes : (n + ys.length) * bytes ≤ 140737488355328) (hbase : base ≤ w1.heap.size)
    (h : ∀ v' w2, w2.ownsRow base e 1 v' (n + ys.length) (xs ++ ys) → w1.grownBy w2 v.ownBlock → wpList P ops Q rest (a.put o.dst v') w2) : wpList P ops Q (o :: rest) a w1 := by
  obtain ⟨i, hi, hz0, hz1, hz2⟩ := info_parts hinfo
  obtain ⟨ad, cap, rfl, h2, h3, h4, h5⟩ := hx
  cases ad with
  | none =>
    have h6 := h4 rfl
    have h7 : ys = [] := List.eq_nil_of_length_eq_zero (by omega)
    subst h7
    subst h6
    refine wpList_append_own_none hgd s y t ho base e i 1 ht hi v n xs hs hown hy ?_
    have := h v w1 (by simpa using hown) ⟨rfl, rfl, rfl, Nat.le_refl _, fun _ _ _ => rfl⟩
    exact this
  | some ad =>
    refine wpList_append_own _ hgd s y t ho base e i z 1 bytes ht hi hz0 hz1 hz2 hz (by decide) v n xs hs hown ad ys.length cap ys hy (by omega) ?_ h1 (by unfold maxLen; omega) hbytes hbase ?_
    · intro j u hj
      obtain ⟨hj', e⟩ := List.getElem?_eq_some_iff.1 hj
      obtain ⟨b, off, h6, h7⟩ := h5 (ne_of_lt hj')
      cases h6
      have hplain : (⟨b, off, none⟩ : Addr).add j = ⟨b, off + j, none⟩ := by unfold Addr.add; split <;> simp_all
      rw [hplain, h7 j hj', e]
    · intro v' w2 h8 h9 _
      exact h v' w2 h8 h9

theorem owns_below {w w1 : World} {base : Nat} {e : TypeId} {v : Value} {n : Nat} {xs : List Value} (h : w.ownsRow base e 1 v n xs) (hb : Below w.heap.size w w1) : w1.ownsRow base e 1 v n xs :=
  h.kept (row := none) ⟨hb.os, hb.tape, hb.output, hb.size, fun k hk _ => hb.block k hk⟩ (by cases h : v.ownBlock <;> simp)
/-- 's[k:]' -/
theorem Sl.drop {w : World} {b off n cap : Nat} {xs : List Value} (h : Sl w (.slice (some ⟨b, off, none⟩) n cap) xs) (k : Nat) (hk : k ≤ n) : Sl w (.slice (some ⟨b, off + k, none⟩) (n - k) (cap - k)) (xs.drop k) := by
  obtain ⟨a, cap', h1, h2, h3, h4, h5⟩ := h
  cases h1
  refine ⟨some ⟨b, off + k, none⟩, cap - k, by rw [List.length_drop], by rw [List.length_drop]; omega, by omega, (fun h => by cases h), fun hne => ?_⟩
  have h6 : k < xs.length := by
    rcases Nat.lt_or_ge k xs.length with h6 | h6
    · exact h6
    · exact absurd (List.drop_of_length_le h6) hne
  obtain ⟨b', off', h7, h8⟩ := h5 (ne_of_lt h6)
  cases h7
  refine ⟨b, off + k, rfl, fun j hj => ?_⟩
  rw [List.length_drop] at hj
  rw [Nat.add_assoc, h8 (k + j) (by omega), List.getElem_drop]
/-- 's[:k]' -/
theorem Sl.take {w : World} {a : Option Addr} {n cap : Nat} {xs : List Value} (h : Sl w (.slice a n cap) xs) (k : Nat) (hk : k ≤ n) : Sl w (.slice a k cap) (xs.take k) := by
  obtain ⟨a', cap', h1, h2, h3, h4, h5⟩ := h
  cases h1
  refine ⟨a, cap, by rw [List.length_take, Nat.min_eq_left hk], by rw [List.length_take]; omega, h3, h4, fun hne => ?_⟩
  obtain ⟨b, off, h6, h7⟩ := h5 (fun e => hne (by rw [e]; simp))
  refine ⟨b, off, h6, fun j hj => ?_⟩
  rw [List.length_take] at hj
  rw [h7 j (by omega), List.getElem_take]

theorem below_row {B base : Nat} {e : TypeId} {n : Nat} {v : Value} {xs : List Value} {a w w' : World} (h : Below B a w) (hown : w.ownsRow base e 1 v n xs) (hg : w.grownBy w' v.ownBlock) (hB : B ≤ w.heap.size) (hb : B ≤ base) : Below B a w' :=
  h.grown hg hB (fun k hk => by have := (hown.lt k hk).1; omega)
theorem kept_row {base : Nat} {e : TypeId} {n k : Nat} {v : Value} {xs : List Value} {w w' : World} {o : Obj} (hown : w.ownsRow base e 1 v n xs) (hg : w.grownBy w' v.ownBlock) (hk : k < base) (ho : w.heap[k]? = some o) : w'.heap[k]? = some o := by
  rw [hg.block k (Array.getElem?_eq_some_iff.1 ho).1 (fun e => by have := (hown.lt _ e.symm).1; omega)]; exact ho
theorem extract_end (s : ByteArray) (a : Nat) : (s.extract a s.size).data.toList = s.data.toList.drop a := by
  rw [Lib.extract_data, List.take_of_length_le]
  rw [List.length_drop]
  exact Nat.le_refl _
theorem Sl.lt {w : World} {v : Value} {xs : List Value} {a : Option Addr} {n cap : Nat} (h : Sl w v xs) (hv : v = .slice a n cap) : n = xs.length := by
  obtain ⟨_, _, h1, _⟩ := h
  rw [hv] at h1; cases h1; rfl

/-- A row in block b whose first cells read as xs and may be written. -/
def MutRow (w : World) (b : Nat) (xs : List Value) : Prop := ∀ j (h : j < xs.length), w.cell? ⟨b, j, none⟩ = some xs[j] ∧ w.frozen? ⟨b, j, none⟩ = false
theorem MutRow.at {w : World} {b : Nat} {xs : List Value} (h : MutRow w b xs) {k : Nat} {x : Value} (hx : xs[k]? = some x) : w.cell? ⟨b, k, none⟩ = some x ∧ w.frozen? ⟨b, k, none⟩ = false := by
  obtain ⟨hk, e⟩ := List.getElem?_eq_some_iff.1 hx
  have := h k hk
  rwa [e] at this
theorem MutRow.set {w : World} {b : Nat} {xs : List Value} (h : MutRow w b xs) {k : Nat} (hk : k < xs.length) (v : Value) : MutRow (w.setCell ⟨b, k, none⟩ v) b (xs.set k v) := by
  intro j hj
  rw [List.length_set] at hj
  refine ⟨?_, (World.frozen?_setCell _ _ _ _).trans (h j hj).2⟩
  by_cases e : k = j
  · subst e
    rw [World.cell?_setCell_same _ _ _ (h k hk).1]
    simp
  · rw [World.cell?_setCell_other _ _ _ _ (by simp), (h j hj).1, List.getElem_set_ne e]
theorem MutRow.sl {w : World} {b cap : Nat} {xs : List Value} (h : MutRow w b xs) (h1 : xs.length ≤ cap) (h2 : cap ≤ 9223372036854775807) : Sl w (.slice (some ⟨b, 0, none⟩) xs.length cap) xs :=
  ⟨_, _, rfl, h1, h2, (fun h => by cases h), fun _ => ⟨b, 0, rfl, fun j hj => by rw [Nat.zero_add]; exact (h j hj).1⟩⟩
theorem MutRow.bytes (w : World) (e : TypeId) (s : ByteArray) : MutRow (Lib.bytesWorld w e s) w.heap.size (u8s s.data.toList) := by
  intro j hj
  have hl : (u8s s.data.toList).length = s.size := by rw [u8s_length]; rfl
  have h1 := grownCap_ge w s.size 0 e
  refine ⟨?_, ?_⟩
  · rw [Lib.bytesWorld_cell w e s j (by omega)]
    have hj' : j < s.data.toList.length := by rw [hl] at hj; exact hj
    simp [u8s, Lib.byteCells, List.getD_eq_getElem?_getD, List.getElem?_eq_getElem hj']
  · unfold World.frozen?
    rw [Lib.bytesWorld_at_new]
    have : s.size ≤ (Lib.bytesCells w e s).size := by
      unfold Lib.bytesCells
      rw [Array.size_append, Array.size_map]
      exact Nat.le_add_right _ _
    simp
    omega

theorem i32_bounds {r : Int} (h : (Lit.int .i32 r).wf = true) : -2147483648 ≤ r ∧ r ≤ 2147483647 := by
  have h2 : IntKind.i32.min = -2147483648 := rfl
  have h3 : IntKind.i32.max = 2147483647 := rfl
  simp only [Lit.wf, Bool.and_eq_true, decide_eq_true_eq, h2, h3] at h
  exact h
theorem i64_bounds {r : Int} (h : (Lit.int .i64 r).wf = true) : -9223372036854775808 ≤ r ∧ r ≤ 9223372036854775807 := by
  have h2 : IntKind.i64.min = -9223372036854775808 := rfl
  have h3 : IntKind.i64.max = 9223372036854775807 := rfl
  simp only [Lit.wf, Bool.and_eq_true, decide_eq_true_eq, h2, h3] at h
  exact h
end Go.Proofs.Ytlknmnldblodbaa

/- Plain facts on UTF-8's forms: bytes as characters, characters as bytes, bytes made right. No program in it. -/
namespace Go.Proofs.Ytlknmnldblodbaa
namespace M1

def cont (l : List UInt8) (k : Nat) : Bool := decide (k < l.length) && (l.getD k 0).toNat / 64 == 2

/-- The character that bytes begin with, and its width. -/
def dec (l : List UInt8) : Nat × Nat :=
  if (l.getD 0 0).toNat < 0x80 then ((l.getD 0 0).toNat, 1)
  else if (l.getD 0 0).toNat / 32 == 6 && cont l 1 then
    if ((l.getD 0 0).toNat % 32) * 64 + (l.getD 1 0).toNat % 64 ≥ 0x80 then (((l.getD 0 0).toNat % 32) * 64 + (l.getD 1 0).toNat % 64, 2) else (65533, 1)
  else if (l.getD 0 0).toNat / 16 == 14 && cont l 1 && cont l 2 then
    if ((l.getD 0 0).toNat % 16) * 4096 + ((l.getD 1 0).toNat % 64) * 64 + (l.getD 2 0).toNat % 64 ≥ 0x800 && Utf8.valid (((l.getD 0 0).toNat % 16) * 4096 + ((l.getD 1 0).toNat % 64) * 64 + (l.getD 2 0).toNat % 64 : Nat) then
      (((l.getD 0 0).toNat % 16) * 4096 + ((l.getD 1 0).toNat % 64) * 64 + (l.getD 2 0).toNat % 64, 3) else (65533, 1)
  else if (l.getD 0 0).toNat / 8 == 30 && cont l 1 && cont l 2 && cont l 3 then
    if ((l.getD 0 0).toNat % 8) * 262144 + ((l.getD 1 0).toNat % 64) * 4096 + ((l.getD 2 0).toNat % 64) * 64 + (l.getD 3 0).toNat % 64 ≥ 0x10000 && Utf8.valid (((l.getD 0 0).toNat % 8) * 262144 + ((l.getD 1 0).toNat % 64) * 4096 + ((l.getD 2 0).toNat % 64) * 64 + (l.getD 3 0).toNat % 64 : Nat) then
      (((l.getD 0 0).toNat % 8) * 262144 + ((l.getD 1 0).toNat % 64) * 4096 + ((l.getD 2 0).toNat % 64) * 64 + (l.getD 3 0).toNat % 64, 4) else (65533, 1)
  else (65533, 1)

theorem get!_drop (s : ByteArray) (i k : Nat) : s.get! (i + k) = (s.data.toList.drop i).getD k 0 := by
  show s.data[i + k]! = _
  rw [Array.getElem!_eq_getD, Array.getD_eq_getD_getElem?, List.getD_eq_getElem?_getD, List.getElem?_drop, Array.getElem?_toList]
  rfl

theorem cont_drop (s : ByteArray) (i k : Nat) : cont (s.data.toList.drop i) k = (decide (i + k < s.size) && (s.get! (i + k)).toNat / 64 == 2) := by
  unfold cont
  rw [get!_drop]
  congr 1
  have : s.size = s.data.toList.length := rfl
  rw [List.length_drop, this]
  apply decide_eq_decide.2
  omega

/-- The model's own decoding, on lists. -/
theorem decode_eq (s : ByteArray) (i : Nat) : Utf8.decode s i = dec (s.data.toList.drop i) := by
  have e := fun k => get!_drop s i k
  have c := fun k => cont_drop s i k
  simp only [Utf8.decode, dec, ← e, c, Utf8.runeError]

/-! ### The forms, written out -/
abbrev enc (r : Int) : List UInt8 := Lib.encodeRune r
def okRune (r : Int) : Prop := (0 ≤ r ∧ r < 55296) ∨ (57343 < r ∧ r ≤ 1114111)
instance (r : Int) : Decidable (okRune r) := by unfold okRune; infer_instance

theorem toNat_u8 (n : Nat) (h : n < 256) : (n.toUInt8).toNat = n := by
  simp [Nat.mod_eq_of_lt h]

theorem enc1 (n : Nat) (h : n ≤ 127) : enc n = [n.toUInt8] := by
  simp only [enc, Lib.encodeRune, Lib.encodeRuneZ_one (r := n) (by omega) (by omega)]; rfl
theorem enc2 (n : Nat) (h : 128 ≤ n) (h' : n ≤ 2047) : enc n = [(192 + n / 64).toUInt8, (128 + n % 64).toUInt8] := by
  simp only [enc, Lib.encodeRune, Lib.encodeRuneZ_two (r := n) (by omega) (by omega)]
  simp only [List.map_cons, List.map_nil]
  rw [show ((192 : Int) + (n : Int) / 64).toNat = 192 + n / 64 by omega, show ((128 : Int) + (n : Int) % 64).toNat = 128 + n % 64 by omega]
theorem enc3 (n : Nat) (h : (2048 ≤ n ∧ n < 55296) ∨ (57343 < n ∧ n ≤ 65535)) : enc n = [(224 + n / 4096).toUInt8, (128 + n / 64 % 64).toUInt8, (128 + n % 64).toUInt8] := by
  simp only [enc, Lib.encodeRune, Lib.encodeRuneZ_three (r := n) (by omega)]
  simp only [List.map_cons, List.map_nil]
  rw [show ((224 : Int) + (n : Int) / 4096).toNat = 224 + n / 4096 by omega, show ((128 : Int) + (n : Int) / 64 % 64).toNat = 128 + n / 64 % 64 by omega, show ((128 : Int) + (n : Int) % 64).toNat = 128 + n % 64 by omega]
theorem enc4 (n : Nat) (h : 65536 ≤ n) (h' : n ≤ 1114111) : enc n = [(240 + n / 262144).toUInt8, (128 + n / 4096 % 64).toUInt8, (128 + n / 64 % 64).toUInt8, (128 + n % 64).toUInt8] := by
  simp only [enc, Lib.encodeRune, Lib.encodeRuneZ_four (r := n) (by omega) (by omega)]
  simp only [List.map_cons, List.map_nil]
  rw [show ((240 : Int) + (n : Int) / 262144).toNat = 240 + n / 262144 by omega, show ((128 : Int) + (n : Int) / 4096 % 64).toNat = 128 + n / 4096 % 64 by omega, show ((128 : Int) + (n : Int) / 64 % 64).toNat = 128 + n / 64 % 64 by omega, show ((128 : Int) + (n : Int) % 64).toNat = 128 + n % 64 by omega]
theorem enc_bad (r : Int) (h : ¬ okRune r) : enc r = [239, 191, 189] := by
  simp only [enc, Lib.encodeRune, Lib.encodeRuneZ_bad (r := r) (by unfold okRune at h; omega)]; rfl

theorem valid_iff (r : Int) : Utf8.valid r = decide (okRune r) := by
  rw [Bool.eq_iff_iff, decide_eq_true_iff]
  unfold Utf8.valid okRune
  simp
  omega

theorem dec_enc (n : Nat) (h : okRune n) (t : List UInt8) : dec (enc n ++ t) = (n, (enc n).length) := by
  have hn : n ≤ 127 ∨ (128 ≤ n ∧ n ≤ 2047) ∨ ((2048 ≤ n ∧ n < 55296) ∨ (57343 < n ∧ n ≤ 65535)) ∨ (65536 ≤ n ∧ n ≤ 1114111) := by unfold okRune at h; omega
  rcases hn with h1 | ⟨h1, h2⟩ | h1 | ⟨h1, h2⟩
  · rw [enc1 n h1]
    have e := toNat_u8 n (by omega)
    simp only [dec, List.cons_append, List.getD_cons_zero, e]
    rw [if_pos (by omega)]; rfl
  · rw [enc2 n h1 h2]
    have e1 := toNat_u8 (192 + n / 64) (by omega)
    have e2 := toNat_u8 (128 + n % 64) (by omega)
    simp only [dec, cont, List.cons_append, List.nil_append, List.getD_cons_zero, List.getD_cons_succ, List.length_cons, e1, e2]
    rw [if_neg (by omega), if_pos (by simp; omega), if_pos (by omega)]
    simp; omega
  · rw [enc3 n h1]
    have e1 := toNat_u8 (224 + n / 4096) (by omega)
    have e2 := toNat_u8 (128 + n / 64 % 64) (by omega)
    have e3 := toNat_u8 (128 + n % 64) (by omega)
    have a : (((224 + n / 4096) % 16) * 4096 + ((128 + n / 64 % 64) % 64) * 64 + (128 + n % 64) % 64) = n := by omega
    simp only [dec, cont, List.cons_append, List.nil_append, List.getD_cons_zero, List.getD_cons_succ, List.length_cons, e1, e2, e3, a, valid_iff]
    rw [if_neg (by omega), if_neg (by simp; omega), if_pos (by simp; omega), if_pos (by simp [h]; omega)]
    rfl
  · rw [enc4 n h1 h2]
    have e1 := toNat_u8 (240 + n / 262144) (by omega)
    have e2 := toNat_u8 (128 + n / 4096 % 64) (by omega)
    have e3 := toNat_u8 (128 + n / 64 % 64) (by omega)
    have e4 := toNat_u8 (128 + n % 64) (by omega)
    have a : (((240 + n / 262144) % 8) * 262144 + ((128 + n / 4096 % 64) % 64) * 4096 + ((128 + n / 64 % 64) % 64) * 64 + (128 + n % 64) % 64) = n := by omega
    simp only [dec, cont, List.cons_append, List.nil_append, List.getD_cons_zero, List.getD_cons_succ, List.length_cons, e1, e2, e3, e4, a, valid_iff]
    rw [if_neg (by omega), if_neg (by simp; omega), if_neg (by simp; omega), if_pos (by simp; omega), if_pos (by simp [h]; omega)]
    rfl

theorem u8_of_toNat (c : UInt8) (n : Nat) (h : c.toNat = n) : n.toUInt8 = c := by subst h; simp

/-- Bytes that there are begin with a character's form; or else they are one byte that is none, and they don't begin with the form of 65533. -/
theorem dec_cases (l : List UInt8) (hl : l ≠ []) :
    (okRune ((dec l).1 : Nat) ∧ l = enc ((dec l).1 : Nat) ++ l.drop (dec l).2 ∧ (dec l).2 = (enc ((dec l).1 : Nat)).length) ∨
    (dec l = (65533, 1) ∧ ∀ t, l ≠ [239, 191, 189] ++ t) := by
  obtain ⟨a, l1, rfl⟩ := List.exists_cons_of_ne_nil hl
  have ha := a.toNat_lt
  by_cases c1 : a.toNat < 128
  · left
    have e : dec (a :: l1) = (a.toNat, 1) := by simp only [dec, List.getD_cons_zero]; rw [if_pos c1]
    rw [e]
    refine ⟨by unfold okRune; omega, ?_, ?_⟩
    · rw [enc1 _ (by omega), u8_of_toNat a _ rfl]; rfl
    · rw [enc1 _ (by omega)]; rfl
  by_cases c2 : a.toNat / 32 = 6
  · cases l1 with
    | nil =>
      right
      refine ⟨?_, by simp⟩
      simp only [dec, cont, List.getD_cons_zero, List.length_cons, List.length_nil]
      rw [if_neg c1, if_neg (by simp), if_neg (by simp), if_neg (by simp)]
    | cons b l2 =>
      have hb := b.toNat_lt
      by_cases d : b.toNat / 64 = 2 ∧ (a.toNat % 32) * 64 + b.toNat % 64 ≥ 128
      · left
        have e : dec (a :: b :: l2) = ((a.toNat % 32) * 64 + b.toNat % 64, 2) := by
          simp only [dec, cont, List.getD_cons_zero, List.getD_cons_succ, List.length_cons]
          rw [if_neg c1, if_pos (by simp; omega), if_pos d.2]
        rw [e]
        have f := enc2 ((a.toNat % 32) * 64 + b.toNat % 64) (by omega) (by omega)
        rw [u8_of_toNat a _ (by omega), u8_of_toNat b _ (by omega)] at f
        exact ⟨by unfold okRune; omega, by rw [f]; rfl, by rw [f]; rfl⟩
      · right
        refine ⟨?_, ?_⟩
        · simp only [dec, cont, List.getD_cons_zero, List.getD_cons_succ, List.length_cons]
          rw [if_neg c1]
          by_cases d1 : b.toNat / 64 = 2
          · rw [if_pos (by simp; omega), if_neg (by omega)]
          · rw [if_neg (by simp; omega), if_neg (by simp; omega), if_neg (by simp; omega)]
        · intro t e
          simp only [List.cons_append, List.cons.injEq] at e
          rw [e.1] at c2
          exact absurd c2 (by decide)
  by_cases c3 : a.toNat / 16 = 14
  · match l1 with
    | [] =>
      right
      refine ⟨?_, by simp⟩
      simp only [dec, cont, List.getD_cons_zero, List.length_cons, List.length_nil]
      rw [if_neg c1, if_neg (by simp), if_neg (by simp), if_neg (by simp)]
    | [b] =>
      right
      refine ⟨?_, by simp⟩
      simp only [dec, cont, List.getD_cons_zero, List.length_cons, List.length_nil]
      rw [if_neg c1, if_neg (by simp; omega), if_neg (by simp), if_neg (by simp)]
    | b :: c :: l2 =>
      have hb := b.toNat_lt
      have hc := c.toNat_lt
      by_cases d : b.toNat / 64 = 2 ∧ c.toNat / 64 = 2 ∧ (a.toNat % 16) * 4096 + (b.toNat % 64) * 64 + c.toNat % 64 ≥ 2048 ∧ okRune ((a.toNat % 16) * 4096 + (b.toNat % 64) * 64 + c.toNat % 64 : Nat)
      · left
        obtain ⟨d1, d2, d3, d4⟩ := d
        have e : dec (a :: b :: c :: l2) = ((a.toNat % 16) * 4096 + (b.toNat % 64) * 64 + c.toNat % 64, 3) := by
          simp only [dec, cont, List.getD_cons_zero, List.getD_cons_succ, List.length_cons, valid_iff]
          rw [if_neg c1, if_neg (by simp; omega), if_pos (by simp; omega), if_pos (by rw [decide_eq_true d4]; simp; omega)]
        rw [e]
        have d5 := d4
        unfold okRune at d5
        have f := enc3 ((a.toNat % 16) * 4096 + (b.toNat % 64) * 64 + c.toNat % 64) (by omega)
        rw [u8_of_toNat a _ (by omega), u8_of_toNat b _ (by omega), u8_of_toNat c _ (by omega)] at f
        exact ⟨d4, by rw [f]; rfl, by rw [f]; rfl⟩
      · right
        refine ⟨?_, ?_⟩
        · simp only [dec, cont, List.getD_cons_zero, List.getD_cons_succ, List.length_cons, valid_iff]
          rw [if_neg c1, if_neg (by simp; omega)]
          by_cases d1 : b.toNat / 64 = 2 ∧ c.toNat / 64 = 2
          · rw [if_pos (by simp; omega), if_neg ?_]
            intro h
            simp only [Bool.and_eq_true, decide_eq_true_eq] at h
            exact d ⟨d1.1, d1.2, h.1, h.2⟩
          · rw [if_neg (by simp; omega), if_neg (by simp; omega)]
        · intro t e
          simp only [List.cons_append, List.nil_append, List.cons.injEq] at e
          obtain ⟨rfl, rfl, rfl, _⟩ := e
          exact d ⟨by decide, by decide, by decide, by unfold okRune; decide⟩
  by_cases c4 : a.toNat / 8 = 30
  · match l1 with
    | [] =>
      right
      refine ⟨?_, by simp⟩
      simp only [dec, cont, List.getD_cons_zero, List.length_cons, List.length_nil]
      rw [if_neg c1, if_neg (by simp), if_neg (by simp), if_neg (by simp)]
    | [b] =>
      right
      refine ⟨?_, by simp⟩
      simp only [dec, cont, List.getD_cons_zero, List.length_cons, List.length_nil]
      rw [if_neg c1, if_neg (by simp; omega), if_neg (by simp), if_neg (by simp)]
    | [b, c] =>
      right
      refine ⟨?_, fun t e => ?_⟩
      · simp only [dec, cont, List.getD_cons_zero, List.length_cons, List.length_nil]
        rw [if_neg c1, if_neg (by simp; omega), if_neg (by simp; omega), if_neg (by simp)]
      · simp only [List.cons_append, List.cons.injEq] at e
        rw [e.1] at c4
        exact absurd c4 (by decide)
    | b :: c :: f :: l2 =>
      have hb := b.toNat_lt
      have hc := c.toNat_lt
      have hf := f.toNat_lt
      by_cases d : b.toNat / 64 = 2 ∧ c.toNat / 64 = 2 ∧ f.toNat / 64 = 2 ∧ (a.toNat % 8) * 262144 + (b.toNat % 64) * 4096 + (c.toNat % 64) * 64 + f.toNat % 64 ≥ 65536 ∧ okRune ((a.toNat % 8) * 262144 + (b.toNat % 64) * 4096 + (c.toNat % 64) * 64 + f.toNat % 64 : Nat)
      · left
        obtain ⟨d1, d2, d3, d4, d5⟩ := d
        have e : dec (a :: b :: c :: f :: l2) = ((a.toNat % 8) * 262144 + (b.toNat % 64) * 4096 + (c.toNat % 64) * 64 + f.toNat % 64, 4) := by
          simp only [dec, cont, List.getD_cons_zero, List.getD_cons_succ, List.length_cons, valid_iff]
          rw [if_neg c1, if_neg (by simp; omega), if_neg (by simp; omega), if_pos (by simp; omega), if_pos (by rw [decide_eq_true d5]; simp; omega)]
        rw [e]
        have d6 := d5
        unfold okRune at d6
        have g := enc4 ((a.toNat % 8) * 262144 + (b.toNat % 64) * 4096 + (c.toNat % 64) * 64 + f.toNat % 64) (by omega) (by omega)
        rw [u8_of_toNat a _ (by omega), u8_of_toNat b _ (by omega), u8_of_toNat c _ (by omega), u8_of_toNat f _ (by omega)] at g
        exact ⟨d5, by rw [g]; rfl, by rw [g]; rfl⟩
      · right
        refine ⟨?_, ?_⟩
        · simp only [dec, cont, List.getD_cons_zero, List.getD_cons_succ, List.length_cons, valid_iff]
          rw [if_neg c1, if_neg (by simp; omega), if_neg (by simp; omega)]
          by_cases d1 : b.toNat / 64 = 2 ∧ c.toNat / 64 = 2 ∧ f.toNat / 64 = 2
          · rw [if_pos (by simp; omega), if_neg ?_]
            intro h
            simp only [Bool.and_eq_true, decide_eq_true_eq] at h
            exact d ⟨d1.1, d1.2.1, d1.2.2, h.1, h.2⟩
          · rw [if_neg (by simp; omega)]
        · intro t e
          simp only [List.cons_append, List.cons.injEq] at e
          rw [e.1] at c4
          exact absurd c4 (by decide)
  right
  refine ⟨?_, ?_⟩
  · simp only [dec, List.getD_cons_zero]
    rw [if_neg c1, if_neg (by simp [c2]), if_neg (by simp [c3]), if_neg (by simp [c4])]
  · intro t e
    simp only [List.cons_append, List.cons.injEq] at e
    rw [e.1] at c3
    exact absurd (by decide) c3
theorem dec_pos (l : List UInt8) (hl : l ≠ []) : 1 ≤ (dec l).2 := by
  rcases dec_cases l hl with ⟨_, _, h⟩ | ⟨h, _⟩
  · rw [h]
    have := (Lib.encodeRuneZ_length ((dec l).1 : Nat)).1
    simpa [enc, Lib.encodeRune] using this
  · rw [h]; exact Nat.le_refl _
theorem dec_le (l : List UInt8) (hl : l ≠ []) : (dec l).2 ≤ l.length := by
  rcases dec_cases l hl with ⟨_, h, h'⟩ | ⟨h, _⟩
  · have := congrArg List.length h
    rw [List.length_append, List.length_drop] at this
    omega
  · rw [h]; exact List.length_pos_iff.2 hl
theorem dec_lt (l : List UInt8) : (dec l).1 < 1114112 := by
  cases l with
  | nil => decide
  | cons a t =>
    rcases dec_cases (a :: t) (by simp) with ⟨h, _⟩ | ⟨h, _⟩
    · unfold okRune at h; omega
    · rw [h]; decide

/-- Bytes' characters. -/
def runes (l : List UInt8) : List Int :=
  match l with
  | [] => []
  | c :: t => ((dec (c :: t)).1 : Int) :: runes (t.drop ((dec (c :: t)).2 - 1))
termination_by l.length
decreasing_by simp; omega

theorem runes_nil : runes [] = [] := by rw [runes]
theorem runes_step (l : List UInt8) (hl : l ≠ []) : runes l = ((dec l).1 : Int) :: runes (l.drop (dec l).2) := by
  obtain ⟨c, t, rfl⟩ := List.exists_cons_of_ne_nil hl
  have h := dec_pos (c :: t) (by simp)
  rw [runes]
  congr 2
  obtain ⟨k, hk⟩ : ∃ k, (dec (c :: t)).2 = k + 1 := ⟨_, (Nat.sub_add_cancel h).symm⟩
  rw [hk]; rfl

theorem runes_enc (n : Nat) (h : okRune n) (t : List UInt8) : runes (enc n ++ t) = (n : Int) :: runes t := by
  have hd := dec_enc n h t
  have hne : enc n ++ t ≠ [] := by
    have := (Lib.encodeRuneZ_length (n : Int)).1
    intro e
    have e2 := congrArg List.length e
    simp [enc, Lib.encodeRune] at e2
    rw [e2.1] at this
    simp at this
  rw [runes_step _ hne, hd, List.drop_left]

/-- Characters' text. -/
def text (l : List Int) : List UInt8 := l.flatMap enc
theorem text_append (a b : List Int) : text (a ++ b) = text a ++ text b := by simp [text]
theorem text_cons (a : Int) (b : List Int) : text (a :: b) = enc a ++ text b := by simp [text]

theorem runes_text (l : List Int) (h : ∀ r ∈ l, okRune r) (t : List UInt8) : runes (text l ++ t) = l ++ runes t := by
  induction l with
  | nil => rfl
  | cons r l ih =>
    have h1 := h r (by simp)
    obtain ⟨n, rfl⟩ : ∃ n : Nat, r = n := ⟨r.toNat, by unfold okRune at h1; omega⟩
    rw [text_cons, List.append_assoc, runes_enc n h1, ih (fun x hx => h x (by simp [hx]))]
    rfl

/-- Of characters: the ends of lines made one 10, 0 made 65533. p: whether a 13 stands right ahead. -/
def mk : Bool → List Int → List Int
  | _, [] => []
  | p, r :: l => (if r = 13 then [10] else if r = 10 ∧ p = true then [] else if r = 0 then [65533] else [r]) ++ mk (decide (r = 13)) l
def right (l : List UInt8) : List UInt8 := text (mk false (runes l))

/-- Is the text right? (each character asked as it is met) -/
def isB (l : List UInt8) : Bool :=
  match l with
  | [] => true
  | c :: t => !((dec (c :: t)).1 == 0 || (dec (c :: t)).1 == 13 || ((dec (c :: t)).1 == 65533 && !((c :: t).take 3 == [239, 191, 189]))) && isB (t.drop ((dec (c :: t)).2 - 1))
termination_by l.length
decreasing_by simp; omega
theorem isB_nil : isB [] = true := by rw [isB]
theorem isB_step (l : List UInt8) (hl : l ≠ []) : isB l = (!((dec l).1 == 0 || (dec l).1 == 13 || ((dec l).1 == 65533 && !(l.take 3 == [239, 191, 189]))) && isB (l.drop (dec l).2)) := by
  obtain ⟨c, t, rfl⟩ := List.exists_cons_of_ne_nil hl
  have h := dec_pos (c :: t) (by simp)
  rw [isB]
  congr 2
  obtain ⟨k, hk⟩ : ∃ k, (dec (c :: t)).2 = k + 1 := ⟨_, (Nat.sub_add_cancel h).symm⟩
  rw [hk]; rfl

theorem enc_head (n : Nat) (h : okRune n) : ∃ a t, enc n = a :: t ∧ (n < 128 → a.toNat = n) ∧ (128 ≤ n → 128 ≤ a.toNat) := by
  have hn : n ≤ 127 ∨ (128 ≤ n ∧ n ≤ 2047) ∨ ((2048 ≤ n ∧ n < 55296) ∨ (57343 < n ∧ n ≤ 65535)) ∨ (65536 ≤ n ∧ n ≤ 1114111) := by unfold okRune at h; omega
  rcases hn with h1 | ⟨h1, h2⟩ | h1 | ⟨h1, h2⟩
  · exact ⟨_, _, enc1 n h1, fun _ => toNat_u8 n (by omega), fun _ => by omega⟩
  · exact ⟨_, _, enc2 n h1 h2, fun _ => by omega, fun _ => by rw [toNat_u8 _ (by omega)]; omega⟩
  · exact ⟨_, _, enc3 n h1, fun _ => by omega, fun _ => by rw [toNat_u8 _ (by omega)]; omega⟩
  · exact ⟨_, _, enc4 n h1 h2, fun _ => by omega, fun _ => by rw [toNat_u8 _ (by omega)]; omega⟩

theorem enc_fffd : enc 65533 = [239, 191, 189] := by decide

/-- A text is right just if it is made right as itself. -/
theorem isB_iff : ∀ (n : Nat) (l : List UInt8), l.length ≤ n → (isB l = true ↔ text (mk false (runes l)) = l) := by
  intro n
  induction n with
  | zero => intro l hl; have : l = [] := List.eq_nil_of_length_eq_zero (by omega); subst this; rw [isB_nil, runes_nil]; simp [mk, text]
  | succ n ih =>
    intro l hl
    by_cases hne : l = []
    · subst hne; rw [isB_nil, runes_nil]; simp [mk, text]
    have hpos := dec_pos l hne
    have hlen := List.length_pos_iff.2 hne
    have ih' := ih (l.drop (dec l).2) (by rw [List.length_drop]; omega)
    rw [isB_step l hne, runes_step l hne]
    rcases dec_cases l hne with ⟨hok, hl2, hw⟩ | ⟨hbad, hno⟩
    · generalize hr : (dec l).1 = r at *
      generalize hrest : l.drop (dec l).2 = rest at *
      obtain ⟨a, t, ha, ha1, ha2⟩ := enc_head r hok
      by_cases h0 : r = 0
      · subst h0
        constructor
        · intro h; simp at h
        · intro h
          rw [hl2] at h
          simp only [mk, text_append] at h
          rw [if_neg (by decide), if_neg (by simp), if_pos (by rfl), text_cons, show enc 65533 = [239, 191, 189] from enc_fffd, show enc ((0 : Nat) : Int) = [0] from by decide] at h
          simp at h
      by_cases h13 : r = 13
      · subst h13
        constructor
        · intro h; simp at h
        · intro h
          rw [hl2] at h
          simp only [mk, text_append] at h
          rw [if_pos (by rfl), text_cons, show enc 10 = [10] from by decide, show enc ((13 : Nat) : Int) = [13] from by decide] at h
          simp at h
      have hmk : text (mk false ((r : Int) :: runes rest)) = enc r ++ text (mk false (runes rest)) := by
        simp only [mk]
        rw [if_neg (by omega), if_neg (by simp), if_neg (by omega), text_append, decide_eq_false (by omega : ¬ (r : Int) = 13)]
        simp [text]
      rw [hmk]
      have hsp : (r == 65533 && !(l.take 3 == [239, 191, 189])) = false := by
        by_cases hf : r = 65533
        · subst hf
          rw [hl2, show enc ((65533 : Nat) : Int) = [239, 191, 189] from enc_fffd]
          simp
        · simp [hf]
      rw [hsp]
      have hb : (r == 0 || r == 13 || false) = false := by simp [h0, h13]
      rw [hb]
      simp only [Bool.not_false, Bool.true_and]
      rw [ih']
      constructor
      · intro h; rw [h]; exact hl2.symm
      · intro h
        have h2 : enc (r : Int) ++ text (mk false (runes rest)) = enc (r : Int) ++ rest := h.trans hl2
        exact List.append_cancel_left h2
    · rw [hbad]
      have hnt : (l.take 3 == [239, 191, 189]) = false := by
        rw [beq_eq_false_iff_ne]
        intro h
        exact hno (l.drop 3) (by rw [← h, List.take_append_drop])
      rw [hnt]
      constructor
      · intro h; simp at h
      · intro h
        exfalso
        simp only [mk] at h
        rw [if_neg (by decide), if_neg (by simp), if_neg (by decide), text_append, text_cons, show enc ((65533 : Nat) : Int) = [239, 191, 189] from enc_fffd] at h
        exact hno _ (by rw [← h]; simp only [List.append_assoc]; rfl)

theorem isB_right_iff (l : List UInt8) : isB l = true ↔ right l = l := isB_iff l.length l (Nat.le_refl _)

theorem runes_ok (n : Nat) : ∀ (l : List UInt8), l.length ≤ n → ∀ r ∈ runes l, okRune r := by
  induction n with
  | zero => intro l hl; have : l = [] := List.eq_nil_of_length_eq_zero (by omega); subst this; rw [runes_nil]; simp
  | succ n ih =>
    intro l hl r hr
    by_cases hne : l = []
    · subst hne; rw [runes_nil] at hr; simp at hr
    have hpos := dec_pos l hne
    have hlen := List.length_pos_iff.2 hne
    rw [runes_step l hne] at hr
    rcases List.mem_cons.1 hr with rfl | hr
    · rcases dec_cases l hne with ⟨hok, _⟩ | ⟨hbad, _⟩
      · exact hok
      · rw [hbad]; decide
    · exact ih (l.drop (dec l).2) (by rw [List.length_drop]; omega) r hr

/-- What 'mk' leaves: characters that may be, none 0 or 13. -/
theorem mk_ok : ∀ (l : List Int) (p : Bool), (∀ r ∈ l, okRune r) → ∀ r ∈ mk p l, okRune r ∧ r ≠ 0 ∧ r ≠ 13
  | [], _, _, r, hr => by simp [mk] at hr
  | x :: l, p, h, r, hr => by
    simp only [mk] at hr
    rcases List.mem_append.1 hr with hr | hr
    · by_cases h13 : x = 13
      · rw [if_pos h13] at hr; simp at hr; subst hr; decide
      rw [if_neg h13] at hr
      by_cases h10 : x = 10 ∧ p = true
      · rw [if_pos h10] at hr; simp at hr
      rw [if_neg h10] at hr
      by_cases h0 : x = 0
      · rw [if_pos h0] at hr; simp at hr; subst hr; decide
      · rw [if_neg h0] at hr; simp at hr; subst hr; exact ⟨h _ (by simp), h0, h13⟩
    · exact mk_ok l _ (fun y hy => h y (by simp [hy])) r hr

theorem mk_fix : ∀ (l : List Int), (∀ r ∈ l, r ≠ 0 ∧ r ≠ 13) → mk false l = l
  | [], _ => rfl
  | x :: l, h => by
    have hx := h x (by simp)
    simp only [mk]
    rw [if_neg hx.2, if_neg (by simp), if_neg hx.1, decide_eq_false hx.2, mk_fix l (fun y hy => h y (by simp [hy]))]
    rfl

theorem right_ok (l : List UInt8) : ∀ r ∈ mk false (runes l), okRune r ∧ r ≠ 0 ∧ r ≠ 13 := mk_ok _ _ (runes_ok l.length l (Nat.le_refl _))

theorem runes_right (l t : List UInt8) : runes (right l ++ t) = mk false (runes l) ++ runes t := runes_text _ (fun r hr => (right_ok l r hr).1) t

theorem right_right (l : List UInt8) : right (right l) = right l := by
  have h := runes_right l []
  simp only [List.append_nil, runes_nil] at h
  show text (mk false (runes (right l))) = _
  rw [h, mk_fix _ (fun r hr => (right_ok l r hr).2)]
  rfl

theorem isB_right (l : List UInt8) : isB (right l) = true := (isB_right_iff _).2 (right_right l)

theorem isB_join (a b : List UInt8) : isB (right a ++ right b) = true := by
  rw [isB_right_iff]
  have h := runes_right a (right b)
  have h2 := runes_right b []
  simp only [List.append_nil, runes_nil] at h2
  rw [h2] at h
  show text (mk false (runes (right a ++ right b))) = _
  rw [h, mk_fix _ (fun r hr => by rcases List.mem_append.1 hr with hr | hr; exact (right_ok a r hr).2; exact (right_ok b r hr).2), text_append]
  rfl

theorem text_len (l : List Int) : l.length ≤ (text l).length := by
  induction l with
  | nil => simp
  | cons r l ih =>
    rw [text_cons, List.length_append]
    have := (Lib.encodeRuneZ_length r).1
    have e : (enc r).length = (Lib.encodeRuneZ r).length := by simp [enc, Lib.encodeRune]
    simp; omega
theorem text_len_le (l : List Int) : (text l).length ≤ 4 * l.length := by
  induction l with
  | nil => simp [text]
  | cons r l ih =>
    rw [text_cons, List.length_append]
    have := (Lib.encodeRuneZ_length r).2
    have e : (enc r).length = (Lib.encodeRuneZ r).length := by simp [enc, Lib.encodeRune]
    simp; omega
theorem mk_len : ∀ (l : List Int) (p : Bool), (mk p l).length ≤ l.length
  | [], _ => by simp [mk]
  | x :: l, p => by
    have := mk_len l (decide (x = 13))
    simp only [mk, List.length_append, List.length_cons]
    split
    · simp; omega
    split
    · simp; omega
    split <;> (simp; omega)
theorem runes_len (n : Nat) : ∀ (l : List UInt8), l.length ≤ n → (runes l).length ≤ l.length := by
  induction n with
  | zero => intro l hl; have : l = [] := List.eq_nil_of_length_eq_zero (by omega); subst this; rw [runes_nil]; simp
  | succ n ih =>
    intro l hl
    by_cases hne : l = []
    · subst hne; rw [runes_nil]; simp
    have hpos := dec_pos l hne
    have hlen := List.length_pos_iff.2 hne
    have := ih (l.drop (dec l).2) (by rw [List.length_drop]; omega)
    rw [runes_step l hne]
    rw [List.length_drop] at this
    simp; omega
theorem right_len (l : List UInt8) : (right l).length ≤ 4 * l.length := by
  have h1 := text_len_le (mk false (runes l))
  have h2 := mk_len (runes l) false
  have h3 := runes_len l.length l (Nat.le_refl _)
  unfold right; omega

/-! ### Small letters -/
def small (c : UInt8) : UInt8 := if 65 ≤ c.toNat ∧ c.toNat ≤ 90 then c + 32 else c
theorem small_nat (c : UInt8) : (small c).toNat = if 65 ≤ c.toNat ∧ c.toNat ≤ 90 then c.toNat + 32 else c.toNat := by
  unfold small
  split
  · rw [UInt8.toNat_add]; simp; omega
  · rfl
theorem small_small (c : UInt8) : small (small c) = small c := by
  have h := small_nat c
  rw [small, if_neg]
  split at h <;> omega
theorem small_not (c : UInt8) : ¬ (65 ≤ (small c).toNat ∧ (small c).toNat ≤ 90) := by
  have h := small_nat c
  split at h <;> omega
def fold (l : List UInt8) : List UInt8 := l.map small
theorem fold_fold (l : List UInt8) : fold (fold l) = fold l := by simp [fold, small_small]
/-- Does s begin, folded, with p? -/
def prefixB (s p : List UInt8) : Bool := decide (p.length ≤ s.length) && (fold (s.take p.length) == p)
theorem prefixB_short (s p : List UInt8) (h : s.length < p.length) : prefixB s p = false := by simp [prefixB]; omega
theorem prefixB_diff (s p : List UInt8) (k : Nat) (h : k < p.length) (h' : k < s.length) (hd : ¬ small s[k] = p[k]) : prefixB s p = false := by
  unfold prefixB
  rw [Bool.and_eq_false_iff]
  right
  rw [beq_eq_false_iff_ne]
  intro h1
  have h2 := congrArg (fun l => l[k]?) h1
  simp only [fold, List.getElem?_map, List.getElem?_take, if_pos h, List.getElem?_eq_getElem h', List.getElem?_eq_getElem h, Option.map_some, Option.some.injEq] at h2
  exact hd h2
theorem prefixB_yes (s p : List UInt8) (h : p.length ≤ s.length) (he : fold (s.take p.length) = p) : prefixB s p = true := by
  unfold prefixB
  rw [decide_eq_true h, he]; simp
/-- The first k bytes folded, the rest as it is. -/
def foldTo (l : List UInt8) (k : Nat) : List UInt8 := fold (l.take k) ++ l.drop k
theorem foldTo_zero (l : List UInt8) : foldTo l 0 = l := by simp [foldTo, fold]
theorem foldTo_all (l : List UInt8) (k : Nat) (h : l.length ≤ k) : foldTo l k = fold l := by simp [foldTo, List.take_of_length_le h, List.drop_of_length_le h]
theorem foldTo_length (l : List UInt8) (k : Nat) : (foldTo l k).length = l.length := by simp [foldTo, fold]; omega
theorem foldTo_get (l : List UInt8) (k : Nat) (h : k < l.length) : (foldTo l k)[k]? = some l[k] := by
  unfold foldTo
  have hl : (fold (l.take k)).length = k := by simp [fold]; omega
  rw [List.getElem?_append_right (by omega), hl, Nat.sub_self, List.getElem?_drop, Nat.add_zero, List.getElem?_eq_getElem h]
theorem foldTo_set (l : List UInt8) (k : Nat) (h : k < l.length) : (foldTo l k).set k (small l[k]) = foldTo l (k + 1) := by
  unfold foldTo
  have e1 : l.take (k + 1) = l.take k ++ [l[k]] := List.take_succ_eq_append_getElem h
  have e2 : l.drop k = l[k] :: l.drop (k + 1) := List.drop_eq_getElem_cons h
  have hl : (fold (l.take k)).length = k := by simp [fold]; omega
  rw [List.set_append_right _ _ (by omega), hl, Nat.sub_self, e1, e2, List.set_cons_zero]
  unfold fold
  rw [List.map_append, List.append_assoc]
  rfl
end M1
end Go.Proofs.Ytlknmnldblodbaa

/- Plain facts: the document's own way to tell the character that bytes begin with, held against 'dec'. -/
namespace Go.Proofs.Ytlknmnldblodbaa
namespace M1

def foll (c : Nat) : Prop := 128 ≤ c ∧ c < 192
/-- How many bytes, what the first one gives, the least number. -/
def Cls (c n v least : Nat) : Prop := (192 ≤ c ∧ c < 224 ∧ n = 2 ∧ v + 192 = c ∧ least = 128) ∨ (224 ≤ c ∧ c < 240 ∧ n = 3 ∧ v + 224 = c ∧ least = 2048) ∨ (240 ≤ c ∧ c < 248 ∧ n = 4 ∧ v + 240 = c ∧ least = 65536)
def at_ (l : List UInt8) (k : Nat) : Nat := (l.getD k 0).toNat
theorem at_lt (l : List UInt8) (k : Nat) : at_ l k < 256 := (l.getD k 0).toNat_lt
/-- What the first k bytes give. -/
def vv (l : List UInt8) (v : Nat) : Nat → Nat
  | 0 => v
  | 1 => v
  | k + 2 => 64 * vv l v (k + 1) + at_ l (k + 1) - 128
def badv (v least : Nat) : Prop := v < least ∨ v > 1114111 ∨ (55296 ≤ v ∧ v ≤ 57343)
instance (v least : Nat) : Decidable (badv v least) := by unfold badv; infer_instance
instance (c : Nat) : Decidable (foll c) := by unfold foll; infer_instance

theorem dec_at (l : List UInt8) : dec l = if at_ l 0 < 0x80 then (at_ l 0, 1)
  else if at_ l 0 / 32 == 6 && (decide (1 < l.length) && at_ l 1 / 64 == 2) then
    if (at_ l 0 % 32) * 64 + at_ l 1 % 64 ≥ 0x80 then ((at_ l 0 % 32) * 64 + at_ l 1 % 64, 2) else (65533, 1)
  else if at_ l 0 / 16 == 14 && (decide (1 < l.length) && at_ l 1 / 64 == 2) && (decide (2 < l.length) && at_ l 2 / 64 == 2) then
    if (at_ l 0 % 16) * 4096 + (at_ l 1 % 64) * 64 + at_ l 2 % 64 ≥ 0x800 && decide (okRune ((at_ l 0 % 16) * 4096 + (at_ l 1 % 64) * 64 + at_ l 2 % 64 : Nat)) then
      ((at_ l 0 % 16) * 4096 + (at_ l 1 % 64) * 64 + at_ l 2 % 64, 3) else (65533, 1)
  else if at_ l 0 / 8 == 30 && (decide (1 < l.length) && at_ l 1 / 64 == 2) && (decide (2 < l.length) && at_ l 2 / 64 == 2) && (decide (3 < l.length) && at_ l 3 / 64 == 2) then
    if (at_ l 0 % 8) * 262144 + (at_ l 1 % 64) * 4096 + (at_ l 2 % 64) * 64 + at_ l 3 % 64 ≥ 0x10000 && decide (okRune ((at_ l 0 % 8) * 262144 + (at_ l 1 % 64) * 4096 + (at_ l 2 % 64) * 64 + at_ l 3 % 64 : Nat)) then
      ((at_ l 0 % 8) * 262144 + (at_ l 1 % 64) * 4096 + (at_ l 2 % 64) * 64 + at_ l 3 % 64, 4) else (65533, 1)
  else (65533, 1) := by
  simp only [← valid_iff]; rfl

theorem dec_low (l : List UInt8) (h : at_ l 0 < 128) : dec l = (at_ l 0, 1) := by rw [dec_at, if_pos h]

theorem dec_none (l : List UInt8) (h : 128 ≤ at_ l 0) (h2 : at_ l 0 < 192 ∨ 248 ≤ at_ l 0) : dec l = (65533, 1) := by
  have := at_lt l 0
  rw [dec_at, if_neg (by omega), if_neg (by simp; omega), if_neg (by simp; omega), if_neg (by simp; omega)]

theorem dec_short (l : List UInt8) {n v least : Nat} (h : Cls (at_ l 0) n v least) (h2 : l.length < n) : dec l = (65533, 1) := by
  rcases h with ⟨h3, h4, rfl, h5, rfl⟩ | ⟨h3, h4, rfl, h5, rfl⟩ | ⟨h3, h4, rfl, h5, rfl⟩
  all_goals rw [dec_at, if_neg (by omega), if_neg (by simp; omega), if_neg (by simp; omega), if_neg (by simp; omega)]

theorem dec_stop (l : List UInt8) {n v least : Nat} (h : Cls (at_ l 0) n v least) (k : Nat) (h1 : 1 ≤ k) (hk : k < n) (h2 : ¬ foll (at_ l k)) : dec l = (65533, 1) := by
  have hb := at_lt l k
  unfold foll at h2
  have h2' : ¬ at_ l k / 64 = 2 := by omega
  rcases h with ⟨h3, h4, rfl, h5, rfl⟩ | ⟨h3, h4, rfl, h5, rfl⟩ | ⟨h3, h4, rfl, h5, rfl⟩
  · obtain rfl : k = 1 := by omega
    rw [dec_at, if_neg (by omega), if_neg (by simp [h2']), if_neg (by simp; omega), if_neg (by simp; omega)]
  · rcases (by omega : k = 1 ∨ k = 2) with rfl | rfl
    all_goals rw [dec_at, if_neg (by omega), if_neg (by simp; omega), if_neg (by simp [h2']), if_neg (by simp; omega)]
  · rcases (by omega : k = 1 ∨ k = 2 ∨ k = 3) with rfl | rfl | rfl
    all_goals rw [dec_at, if_neg (by omega), if_neg (by simp; omega), if_neg (by simp; omega), if_neg (by simp [h2'])]

set_option maxRecDepth 10000 in
theorem dec_full (l : List UInt8) {n v least : Nat} (h : Cls (at_ l 0) n v least) (hl : n ≤ l.length) (hf : ∀ k, 1 ≤ k → k < n → foll (at_ l k)) : dec l = if badv (vv l v n) least then (65533, 1) else (vv l v n, n) := by
  have b1 := at_lt l 1
  have b2 := at_lt l 2
  have b3 := at_lt l 3
  rcases h with ⟨h3, h4, rfl, h5, rfl⟩ | ⟨h3, h4, rfl, h5, rfl⟩ | ⟨h3, h4, rfl, h5, rfl⟩
  · have f1 := hf 1 (by omega) (by omega)
    unfold foll at f1
    have e : vv l v 2 = (at_ l 0 % 32) * 64 + at_ l 1 % 64 := by
      have : vv l v 2 = 64 * v + at_ l 1 - 128 := rfl
      omega
    rw [dec_at, if_neg (by omega), if_pos (by simp; omega), e]
    by_cases hb : (at_ l 0 % 32) * 64 + at_ l 1 % 64 ≥ 128
    · rw [if_pos hb, if_neg (by unfold badv; omega)]
    · rw [if_neg hb, if_pos (by unfold badv; omega)]
  · have f1 := hf 1 (by omega) (by omega)
    have f2 := hf 2 (by omega) (by omega)
    unfold foll at f1 f2
    have e : vv l v 3 = (at_ l 0 % 16) * 4096 + (at_ l 1 % 64) * 64 + at_ l 2 % 64 := by
      have : vv l v 3 = 64 * (64 * v + at_ l 1 - 128) + at_ l 2 - 128 := rfl
      omega
    rw [dec_at, if_neg (by omega), if_neg (by simp; omega), if_pos (by simp; omega), e]
    generalize (at_ l 0 % 16) * 4096 + (at_ l 1 % 64) * 64 + at_ l 2 % 64 = x at *
    by_cases hb : badv x 2048
    · rw [if_pos hb, if_neg (by simp [okRune]; unfold badv at hb; omega)]
    · rw [if_neg hb, if_pos (by simp [okRune]; unfold badv at hb; omega)]
  · have f1 := hf 1 (by omega) (by omega)
    have f2 := hf 2 (by omega) (by omega)
    have f3 := hf 3 (by omega) (by omega)
    unfold foll at f1 f2 f3
    have e : vv l v 4 = (at_ l 0 % 8) * 262144 + (at_ l 1 % 64) * 4096 + (at_ l 2 % 64) * 64 + at_ l 3 % 64 := by
      have : vv l v 4 = 64 * (64 * (64 * v + at_ l 1 - 128) + at_ l 2 - 128) + at_ l 3 - 128 := rfl
      omega
    rw [dec_at, if_neg (by omega), if_neg (by simp; omega), if_neg (by simp; omega), if_pos (by simp; omega), e]
    generalize (at_ l 0 % 8) * 262144 + (at_ l 1 % 64) * 4096 + (at_ l 2 % 64) * 64 + at_ l 3 % 64 = x at *
    by_cases hb : badv x 65536
    · rw [if_pos hb, if_neg (by simp [okRune]; unfold badv at hb; omega)]
    · rw [if_neg hb, if_pos (by simp [okRune]; unfold badv at hb; omega)]

/-- Does a 13 stand right ahead of place k? -/
def prev (rs : List Int) : Nat → Bool
  | 0 => false
  | k + 1 => decide (rs.getD k 0 = 13)
/-- What 'mk' adds for one character. -/
def piece (x : Int) (p : Bool) : List Int := if x = 13 then [10] else if x = 10 ∧ p = true then [] else if x = 0 then [65533] else [x]
theorem mk_drop (rs : List Int) (k : Nat) (h : k < rs.length) : mk (prev rs k) (rs.drop k) = piece rs[k] (prev rs k) ++ mk (prev rs (k + 1)) (rs.drop (k + 1)) := by
  rw [List.drop_eq_getElem_cons h, mk]
  have : prev rs (k + 1) = decide (rs[k] = 13) := by simp [prev, List.getD_eq_getElem?_getD, List.getElem?_eq_getElem h]
  rw [this]; rfl

def sameB (a b : List Int) : Bool := decide (a = b)
theorem sameB_len {a b : List Int} (h : a.length ≠ b.length) : sameB a b = false := decide_eq_false (fun e => h (by rw [e]))
theorem sameB_at {a b : List Int} {k : Nat} (h : k < a.length) (h' : k < b.length) (hd : a[k] ≠ b[k]) : sameB a b = false := decide_eq_false (fun e => hd (by subst e; rfl))
theorem sameB_self (a : List Int) : sameB a a = true := decide_eq_true rfl
theorem sameB_yes {a b : List Int} (h : a.length = b.length) (hd : a.take a.length = b.take a.length) : sameB a b = true := by
  rw [List.take_length, h, List.take_length] at hd
  exact decide_eq_true hd
theorem take_step {a b : List Int} {k : Nat} (h : k < a.length) (h' : k < b.length) (ht : a.take k = b.take k) (he : a[k] = b[k]) : a.take (k + 1) = b.take (k + 1) := by
  rw [List.take_succ_eq_append_getElem h, List.take_succ_eq_append_getElem h', ht, he]
end M1
end Go.Proofs.Ytlknmnldblodbaa

/- The document's answers of layer 1 (package strainerref01): what each call gives. -/
namespace Go.Proofs.Ytlknmnldblodbaa
open Go.RowKit

set_option maxHeartbeats 1000000 in
theorem ref01Follows (c : Int) (w : World) (h0 : 0 ≤ c) (h1 : c ≤ 255) :
    Calls Try.prog 98 #[.int .u8 c] w fun e w' => e = .returned (.bool (decide (128 ≤ c ∧ c < 192))) ∧ w' = w := by
  by_cases h : 128 ≤ c ∧ c < 192
  · rw [decide_eq_true h]
    obtain ⟨h2, h3⟩ := h
    go_enter Try.func98, Try.ntmps98
    go_wp2
    go_ret
    exact ⟨rfl, rfl⟩
  · rw [decide_eq_false h]
    have h2 : c < 128 ∨ 192 ≤ c := by omega
    rcases h2 with h2 | h2
    · have hb : decide (128 ≤ c) = false := decide_eq_false (by omega)
      go_enter Try.func98, Try.ntmps98
      go_wp2
      go_ret
      exact ⟨rfl, rfl⟩
    · have hb : decide (c < 192) = false := decide_eq_false (by omega)
      go_enter Try.func98, Try.ntmps98
      go_wp2
      go_ret
      exact ⟨rfl, rfl⟩

set_option maxHeartbeats 2000000 in
set_option maxRecDepth 100000 in
theorem ref01One (v : Value) (l : List UInt8) (w : World) (hs : Sl w v (u8s l)) (hne : l ≠ []) :
    Calls Try.prog 79 #[v] w fun e w' => e = .returned (.tuple #[.int .i32 (M1.dec l).1, .int .i64 (M1.dec l).2]) ∧ w' = w := by
  obtain ⟨a, cap, rfl, h2, h3, h4, h5⟩ := hs
  have hpos := List.length_pos_iff.2 hne
  obtain ⟨b, off, rfl, h7⟩ := h5 (ne_of_lt (k := 0) (by simpa using hpos))
  rw [u8s_length] at *
  have hc : ∀ j, j < l.length → w.cell? ⟨b, off + j, none⟩ = some (.int .u8 (M1.at_ l j : Int)) := by
    intro j hj
    rw [h7 j (by simpa using hj)]
    simp [u8s, Lib.byteCells, M1.at_, List.getD_eq_getElem?_getD, List.getElem?_eq_getElem hj]
  have hc0 := hc 0 hpos
  rw [Nat.add_zero] at hc0
  have hb0 := M1.at_lt l 0
  clear h5 h7 h4
  by_cases hlow : M1.at_ l 0 < 128
  · rw [M1.dec_low l hlow]
    clear hc
    generalize M1.at_ l 0 = c at *
    go_enter Try.func79, Try.ntmps79
    go_wp2
    go_ret2
    exact ⟨rfl, rfl⟩
  by_cases hnone : M1.at_ l 0 < 192 ∨ 248 ≤ M1.at_ l 0
  · rw [M1.dec_none l (by omega) hnone]
    clear hc
    generalize M1.at_ l 0 = c at *
    rcases hnone with hnone | hnone
    all_goals
      go_enter Try.func79, Try.ntmps79
      go_wp2
      go_ret2
      exact ⟨rfl, rfl⟩
  have hcls : (192 ≤ M1.at_ l 0 ∧ M1.at_ l 0 < 224) ∨ (224 ≤ M1.at_ l 0 ∧ M1.at_ l 0 < 240) ∨ (240 ≤ M1.at_ l 0 ∧ M1.at_ l 0 < 248) := by omega
  go_enter Try.func79, Try.ntmps79
  go_upto_if 23 with fail
  go_cut [4, 5, 6, 7] (fun _ s5 s6 s7 wx => wx = w ∧ ∃ n v least : Nat, s5 = .int .i64 n ∧ s6 = .int .i64 v ∧ s7 = .int .i64 least ∧ M1.Cls (M1.at_ l 0) n v least)
  case first =>
    clear hc
    rcases hcls with ⟨k1, k2⟩ | ⟨k1, k2⟩ | ⟨k1, k2⟩
    · go_wp2
      go_meet
      exact ⟨rfl, 2, M1.at_ l 0 - 192, 128, rfl, by rw [Int.ofNat_sub k1]; rfl, rfl, by unfold M1.Cls; omega⟩
    · go_wp2
      go_meet
      exact ⟨rfl, 3, M1.at_ l 0 - 224, 2048, rfl, by rw [Int.ofNat_sub k1]; rfl, rfl, by unfold M1.Cls; omega⟩
    · go_wp2
      go_meet
      exact ⟨rfl, 4, M1.at_ l 0 - 240, 65536, rfl, by rw [Int.ofNat_sub k1]; rfl, rfl, by unfold M1.Cls; omega⟩
  case rest =>
    obtain ⟨rfl, n, v, least, rfl, rfl, rfl, hC⟩ := hcut
    have hn : 2 ≤ n ∧ n ≤ 4 ∧ v < 32 := by unfold M1.Cls at hC; omega
    clear hcls hnone hlow hc0
    by_cases hsh : l.length < n
    · have hd := Lib.hid (M1.dec_short l hC hsh)
      go_wp2
      go_ret2
      exact ⟨by rw [hd.out]; rfl, rfl⟩
    go_wp2
    go_loop [6, 8] (fun s6 i => ∃ k : Nat, 1 ≤ k ∧ k ≤ n ∧ i = .int .i64 k ∧ s6 = .int .i64 (M1.vv l v k) ∧ Hid (∀ j, 1 ≤ j → j < k → M1.foll (M1.at_ l j)) ∧ Hid ((k = 1 → M1.vv l v k < 32) ∧ (k = 2 → M1.vv l v k < 2048) ∧ (k = 3 → M1.vv l v k < 131072) ∧ (k = 4 → M1.vv l v k < 8388608))) (fun _ i => n - (intOf i).toNat)
    case atStart => exact ⟨1, by omega, by omega, rfl, rfl, fun j _ _ => by omega, ⟨fun _ => hn.2.2, by omega, by omega, by omega⟩⟩
    case round =>
      obtain ⟨k, hk1, hk2, rfl, rfl, hF, hV⟩ := hrel
      by_cases hlt : k < n
      · have hck := hc k (by omega)
        have hak := M1.at_lt l k
        have hvb : M1.vv l v k < 131072 := by have := hV.out; omega
        by_cases hfo : M1.foll (M1.at_ l k)
        · have hb : decide (128 ≤ (M1.at_ l k : Int) ∧ (M1.at_ l k : Int) < 192) = true := decide_eq_true (by unfold M1.foll at hfo; omega)
          have hF2 : Hid (∀ j, 1 ≤ j → j < k + 1 → M1.foll (M1.at_ l j)) := fun j h1 h2 => by
            by_cases e : j = k
            · rw [e]; exact hfo
            · exact hF.out j h1 (by omega)
          have hfo2 : 128 ≤ M1.at_ l k ∧ M1.at_ l k < 192 := hfo
          have hvs : Hid (M1.vv l v (k + 1) = 64 * M1.vv l v k + M1.at_ l k - 128) := by
            obtain ⟨k', rfl⟩ : ∃ k', k = k' + 1 := ⟨k - 1, by omega⟩
            exact rfl
          clear hc hfo
          go_wp2_with (go_at_call 98; refine (ref01Follows _ _ (by omega) (by omega)).mono ?_; rintro e w2 ⟨rfl, rfl⟩)
          go_round
          case rel =>
            refine ⟨k + 1, by omega, by omega, by go_num, ?_, hF2, ?_⟩
            · rw [hvs.out]; congr 1; omega
            · show _ ∧ _ ∧ _ ∧ _
              have := hV.out
              have := hvs.out
              refine ⟨?_, ?_, ?_, ?_⟩ <;> intro _ <;> omega
          case measure => simp [intOf]; omega
        · have hb : decide (128 ≤ (M1.at_ l k : Int) ∧ (M1.at_ l k : Int) < 192) = false := decide_eq_false (by unfold M1.foll at hfo; omega)
          have hd := Lib.hid (M1.dec_stop l hC k hk1 hlt hfo)
          clear hc hfo
          go_wp2_with (go_at_call 98; refine (ref01Follows _ _ (by omega) (by omega)).mono ?_; rintro e w2 ⟨rfl, rfl⟩)
          go_ret2
          exact ⟨by rw [hd.out]; rfl, rfl⟩
      · obtain rfl : k = n := by omega
        have hd := Lib.hid (M1.dec_full l hC (by omega) hF.out)
        have hvb : M1.vv l v k < 8388608 := by have := hV.out; omega
        clear hc hV hF
        by_cases hbad : M1.badv (M1.vv l v k) least
        · have hd2 := Lib.hid (hd.out.trans (if_pos hbad))
          clear hd
          unfold M1.badv at hbad
          generalize M1.vv l v k = x at *
          have hcase : x < least ∨ (least ≤ x ∧ 1114111 < x) ∨ (least ≤ x ∧ 55296 ≤ x ∧ x ≤ 57343) := by omega
          rcases hcase with c1 | ⟨c1, c2⟩ | ⟨c1, c2, c3⟩
          all_goals
            clear hbad
            go_wp2
            go_ret2
            exact ⟨by rw [hd2.out]; rfl, rfl⟩
        · have hd2 := Lib.hid (hd.out.trans (if_neg hbad))
          clear hd
          unfold M1.badv at hbad
          generalize M1.vv l v k = x at *
          have c1 : least ≤ x := by omega
          have c2 : x ≤ 1114111 := by omega
          have hcase : x < 55296 ∨ 57343 < x := by omega
          rcases hcase with c3 | c3
          · have hb : decide (55296 ≤ (x : Int)) = false := decide_eq_false (by omega)
            have hb2 : decide (55296 ≤ x) = false := decide_eq_false (by omega)
            clear hbad
            go_wp2
            go_ret2
            exact ⟨by rw [hd2.out]; rfl, rfl⟩
          · have hb : decide ((x : Int) ≤ 57343) = false := decide_eq_false (by omega)
            have hb2 : decide (x ≤ 57343) = false := decide_eq_false (by omega)
            clear hbad
            go_wp2
            go_ret2
            exact ⟨by rw [hd2.out]; rfl, rfl⟩
end Go.Proofs.Ytlknmnldblodbaa

/- The document's answers of layer 1, the rest: characters, texts, made right, folded; lists held against one another. -/
namespace Go.Proofs.Ytlknmnldblodbaa
open Go.RowKit

theorem info32' : (Try.prog.info? 21).map (fun i => (i.zero, i.size, i.bytes)) = some (some (.int .i32 0), 1, 4) := by kernel_rfl
theorem drop_ne' {l : List UInt8} {k : Nat} (h : k < l.length) : l.drop k ≠ [] := ne_of_lt (k := 0) (by rw [List.length_drop]; omega)

set_option maxHeartbeats 1000000 in
set_option maxRecDepth 100000 in
theorem ref01Runes (v : Value) (l : List UInt8) (w : World) (hs : Sl w v (u8s l)) (hl : l.length ≤ 1073741824) :
    Calls Try.prog 54 #[v] w fun e w' => ∃ v', e = .returned v' ∧ Sl w' v' (i32s (M1.runes l)) ∧ Below w.heap.size w w' := by
  have hs0 := hs
  obtain ⟨a, cap, rfl, h2, h3, h4, h5⟩ := hs
  rw [u8s_length] at *
  go_enter Try.func54, Try.ntmps54
  go_wp2
  go_loopw [3, 4] (fun v3 i wr => ∃ (pos : Nat) (acc : List Int), i = .int .i64 pos ∧ pos ≤ l.length ∧ wr.ownsRow w.heap.size 21 1 v3 acc.length (i32s acc) ∧ Below w.heap.size w wr ∧ Hid (M1.runes l = acc ++ M1.runes (l.drop pos)) ∧ acc.length ≤ pos) (fun _ i _ => l.length - (intOf i).toNat)
  case atStart => exact ⟨0, [], rfl, by omega, World.ownsRow_nil _ _ _ _, Below.refl _ _, rfl, by simp⟩
  case round =>
    obtain ⟨pos, acc, rfl, hpl, hown, hbw, hacc, hal⟩ := hrel
    by_cases hp : pos < l.length
    · obtain ⟨b, off, rfl, h7⟩ := h5 (ne_of_lt (k := pos) (by simpa using hp))
      have hne := drop_ne' hp
      have hd := (hs0.below hbw).drop pos (by omega)
      have hO := ref01One _ (l.drop pos) wr (by rw [show u8s (l.drop pos) = (u8s l).drop pos by simp [u8s, Lib.byteCells, List.map_drop]]; exact hd) hne
      have hst0 := M1.runes_step _ hne
      have hw1 := M1.dec_pos _ hne
      have hw2 := M1.dec_le _ hne
      have hlt := M1.dec_lt (l.drop pos)
      rw [List.drop_drop] at hst0
      rw [List.length_drop] at hw2
      generalize (M1.dec (l.drop pos)).1 = r at *
      generalize (M1.dec (l.drop pos)).2 = wd at *
      have hst := Lib.hid hst0
      have hO := Lib.hid hO
      clear hst0 h5 h7 hd hs0 h4
      go_wp2_with (first | (go_at_call 79; refine hO.out.mono ?_; rintro e w2 ⟨rfl, rfl⟩) | (at_builtin; refine wpList_app1 _ _ rfl _ _ 62 21 rfl w.heap.size Try.underlying62 info32' rfl _ _ _ rfl hown rfl rfl ?c1 ?c2 ?c3 ?_))
      case c1 => omega
      case c2 => omega
      case c3 => exact hbw.size
      intro v' w2 hown2 hgrow
      go_wp2
      go_roundw
      case rel =>
        refine ⟨pos + wd, acc ++ [(r : Int)], by go_num, by omega, ?_, below_row hbw hown hgrow hbw.size (Nat.le_refl _), ?_, by simp; omega⟩
        · rw [i32s_append, List.length_append]; exact hown2
        · show _ = _
          rw [hacc.out, hst.out]; simp
      case measure => simp [intOf]; omega
    · clear h5 h4 hs0
      have h := hacc.out
      rw [List.drop_of_length_le (by omega), M1.runes_nil, List.append_nil] at h
      have h := Lib.hid h
      go_wp2
      go_ret
      exact ⟨_, rfl, by rw [h.out]; exact Sl.own hown, hbw⟩

theorem Sl.fresh (w : World) (e : TypeId) (xs : List Value) (n : Nat) (hn : xs.length = n) (h : n ≤ 4) : Sl (w.alloc (.cells xs.toArray e)) (.slice (some ⟨w.heap.size, 0, none⟩) n n) xs := by
  subst hn
  refine ⟨_, xs.length, rfl, Nat.le_refl _, by omega, (fun h => by cases h), fun _ => ⟨_, 0, rfl, fun j hj => ?_⟩⟩
  rw [Nat.zero_add, World.cell?_alloc_at _ _ _ _ rfl]
  simp [hj]

set_option maxHeartbeats 2000000 in
set_option maxRecDepth 100000 in
theorem ref01Bytes (r : Int) (w : World) (h0 : -2147483648 ≤ r) (h1 : r ≤ 2147483647) :
    Calls Try.prog 80 #[.int .i32 r] w fun e w' => ∃ v', e = .returned v' ∧ Sl w' v' (Lib.runeCells r) ∧ Below w.heap.size w w' := by
  have hfr := fun xs n hn h => Sl.fresh w 5 xs n hn h
  have hbl := fun o => (Below.refl w.heap.size w).alloc (Nat.le_refl _) o
  have hfr := Lib.hid hfr
  have hbl := Lib.hid hbl
  by_cases c1 : 0 ≤ r ∧ r ≤ 127
  · obtain ⟨c1, c2⟩ := c1
    have e : Lib.runeCells r = [.int .u8 r] := by simp [Lib.runeCells, Lib.encodeRuneZ_one c1 c2]
    rw [e]
    clear e
    go_enter Try.func80, Try.ntmps80
    go_wp2
    go_ret
    exact ⟨_, rfl, hfr.out _ 1 rfl (by omega), hbl.out _⟩
  by_cases c2 : 128 ≤ r ∧ r ≤ 2047
  · obtain ⟨c2, c3⟩ := c2
    have e : Lib.runeCells r = [.int .u8 (192 + r / 64), .int .u8 (128 + r % 64)] := by simp [Lib.runeCells, Lib.encodeRuneZ_two c2 c3]
    rw [e]
    clear e
    go_enter Try.func80, Try.ntmps80
    go_wp2
    go_ret
    exact ⟨_, rfl, hfr.out _ 2 rfl (by omega), hbl.out _⟩
  by_cases c3 : 2048 ≤ r ∧ r < 55296
  · obtain ⟨c3, c4⟩ := c3
    have e : Lib.runeCells r = [.int .u8 (224 + r / 4096), .int .u8 (128 + r / 64 % 64), .int .u8 (128 + r % 64)] := by simp [Lib.runeCells, Lib.encodeRuneZ_three (r := r) (by omega)]
    rw [e]
    clear e
    go_enter Try.func80, Try.ntmps80
    go_wp2
    go_ret
    exact ⟨_, rfl, hfr.out _ 3 rfl (by omega), hbl.out _⟩
  by_cases c4 : 57343 < r ∧ r ≤ 65535
  · obtain ⟨c4, c5⟩ := c4
    have e : Lib.runeCells r = [.int .u8 (224 + r / 4096), .int .u8 (128 + r / 64 % 64), .int .u8 (128 + r % 64)] := by simp [Lib.runeCells, Lib.encodeRuneZ_three (r := r) (by omega)]
    have hb : decide (r ≤ 57343) = false := decide_eq_false (by omega)
    rw [e]
    clear e
    go_enter Try.func80, Try.ntmps80
    go_wp2
    go_ret
    exact ⟨_, rfl, hfr.out _ 3 rfl (by omega), hbl.out _⟩
  by_cases c5 : 65536 ≤ r ∧ r ≤ 1114111
  · obtain ⟨c5, c6⟩ := c5
    have e : Lib.runeCells r = [.int .u8 (240 + r / 262144), .int .u8 (128 + r / 4096 % 64), .int .u8 (128 + r / 64 % 64), .int .u8 (128 + r % 64)] := by simp [Lib.runeCells, Lib.encodeRuneZ_four c5 c6]
    have hb : decide (r ≤ 57343) = false := decide_eq_false (by omega)
    rw [e]
    clear e
    go_enter Try.func80, Try.ntmps80
    go_wp2
    go_ret
    exact ⟨_, rfl, hfr.out _ 4 rfl (by omega), hbl.out _⟩
  have e : Lib.runeCells r = [.int .u8 239, .int .u8 191, .int .u8 189] := by simp [Lib.runeCells, Lib.encodeRuneZ_bad (r := r) (by omega)]
  rw [e]
  clear e
  have hc : r < 0 ∨ 1114111 < r ∨ (55296 ≤ r ∧ r ≤ 57343) := by omega
  clear c1 c2 c3 c4 c5
  rcases hc with hc | hc | ⟨hc, hc2⟩
  all_goals
    go_enter Try.func80, Try.ntmps80
    go_wp2
    go_ret
    exact ⟨_, rfl, hfr.out _ 3 rfl (by omega), hbl.out _⟩

theorem runeCells_one (r : Int) : ∀ u ∈ Lib.runeCells r, u.oneCell' = true := by
  intro u hu
  simp only [Lib.runeCells, List.mem_map] at hu
  obtain ⟨x, _, rfl⟩ := hu
  rfl

set_option maxHeartbeats 1000000 in
set_option maxRecDepth 100000 in
theorem ref01Text (v : Value) (rs : List Int) (w : World) (hs : Sl w v (i32s rs)) (hr : ∀ r ∈ rs, -2147483648 ≤ r ∧ r ≤ 2147483647) (hl : rs.length ≤ 1073741824) :
    Calls Try.prog 55 #[v] w fun e w' => e = .returned (.string ⟨(M1.text rs).toArray⟩) ∧ Below w.heap.size w w' := by
  obtain ⟨a, cap, rfl, h2, h3, h4, h5⟩ := hs
  rw [i32s_length] at *
  go_enter Try.func55, Try.ntmps55
  go_wp2
  go_loopw [3, 4] (fun v3 i wr => ∃ k : Nat, i = .int .i64 k ∧ k ≤ rs.length ∧ wr.ownsRow w.heap.size 5 1 v3 (M1.text (rs.take k)).length (u8s (M1.text (rs.take k))) ∧ Below w.heap.size w wr) (fun _ i _ => rs.length - (intOf i).toNat)
  case atStart => exact ⟨0, rfl, by omega, World.ownsRow_nil _ _ _ _, Below.refl _ _⟩
  case round =>
    obtain ⟨k, rfl, hk, hown, hbw⟩ := hrel
    have htl := M1.text_len_le (rs.take k)
    have htk : (rs.take k).length ≤ k := List.length_take_le _ _
    by_cases hlt : k < rs.length
    · obtain ⟨b, off, rfl, h7⟩ := h5 (ne_of_lt (k := k) (by simpa using hlt))
      have h8 := h7 k (by simpa using hlt)
      have h9 := World.block_lt_of_cell? w _ h8
      have hc : wr.cell? ⟨b, off + k, none⟩ = some (.int .i32 rs[k]) := by
        rw [hbw.cell h9, h8]; simp [i32s]
      have hrk := hr rs[k] (List.getElem_mem hlt)
      have htk1 := Lib.hid (List.take_succ_eq_append_getElem hlt)
      have hl4 := Lib.runeCells_le rs[k]
      have hco := Lib.hid (runeCells_one rs[k])
      clear h5 h7 h8
      generalize rs[k] = r at *
      go_wp2_with fail
      refine (ref01Bytes r _ hrk.1 hrk.2).mono ?_
      rintro e w1 ⟨y, rfl, hy, hb1⟩
      have hown1 := owns_below hown hb1
      have hs1 := hb1.size
      have hs2 := hbw.size
      go_wp2_with (at_builtin; refine wpList_appSl _ rfl _ _ 22 5 rfl w.heap.size Try.underlying22 infoU8 rfl _ _ _ rfl hown1 _ _ rfl hy hco.out (by omega) (by omega) (by have := hbw.size; omega) ?_)
      intro v' w2 hown2 hgrow
      go_wp2
      go_roundw
      case rel =>
        have e : u8s (M1.text [r]) = Lib.runeCells r := by
          rw [show M1.text [r] = Lib.encodeRune r by simp [M1.text]]; exact Lib.byteCells_encodeRune r
        have e2 : (M1.text [r]).length = (Lib.runeCells r).length := by rw [← e, u8s_length]
        refine ⟨k + 1, by go_num, by omega, ?_, below_row (hbw.trans (hb1.mono hs2)) hown1 hgrow (by omega) (Nat.le_refl _)⟩
        rw [htk1.out, M1.text_append, u8s_append, e, List.length_append, e2]
        exact hown2
      case measure => simp [intOf]; omega
    · clear h5 h4
      have hcv := (Sl.own hown).toString 22 9 5 Try.underlying22 Try.underlying5 Try.underlying9
      go_wp2
      go_ret
      rw [List.take_of_length_le (by omega)]
      exact ⟨rfl, hbw⟩
end Go.Proofs.Ytlknmnldblodbaa

/- The document's answers of layer 1, the rest: made right, folded; lists held against one another. -/
namespace Go.Proofs.Ytlknmnldblodbaa
open Go.RowKit

set_option maxHeartbeats 2000000 in
set_option maxRecDepth 100000 in
theorem ref01Right (v : Value) (l : List UInt8) (w : World) (hs : Sl w v (u8s l)) (hl : l.length ≤ 268435456) :
    Calls Try.prog 28 #[v] w fun e w' => e = .returned (.string ⟨(M1.right l).toArray⟩) ∧ Below w.heap.size w w' := by
  have hrl := M1.runes_len l.length l (Nat.le_refl _)
  have hml := M1.mk_len (M1.runes l) false
  have hok := Lib.hid (M1.right_ok l)
  go_enter Try.func28, Try.ntmps28
  go_wp2_with fail
  refine (ref01Runes v l w hs (by omega)).mono ?_
  rintro e w0 ⟨v0, rfl, hs0, hb0⟩
  have hr : Hid (M1.right l = M1.text (M1.mk false (M1.runes l))) := rfl
  generalize M1.runes l = rs at *
  have hs00 := hs0
  obtain ⟨a, cap, rfl, h2, h3, h4, h5⟩ := hs0
  rw [i32s_length] at *
  have hz0 := hb0.size
  go_wp2
  go_loopw [4, 5] (fun v4 i wr => ∃ (k : Nat) (acc : List Int), i = .int .i64 k ∧ k ≤ rs.length ∧ acc.length ≤ k ∧ wr.ownsRow w0.heap.size 21 1 v4 acc.length (i32s acc) ∧ Below w0.heap.size w0 wr ∧ Hid (M1.mk false rs = acc ++ M1.mk (M1.prev rs k) (rs.drop k))) (fun _ i _ => rs.length - (intOf i).toNat)
  case atStart => exact ⟨0, [], rfl, by omega, by simp, World.ownsRow_nil _ _ _ _, Below.refl _ _, rfl⟩
  case round =>
    obtain ⟨k, acc, rfl, hk, hak, hown, hbw, hacc⟩ := hrel
    by_cases hlt : k < rs.length
    · obtain ⟨b, off, rfl, h7⟩ := h5 (ne_of_lt (k := k) (by simpa using hlt))
      have hcell : ∀ j, (hj : j < rs.length) → wr.cell? ⟨b, off + j, none⟩ = some (.int .i32 rs[j]) := fun j hj => by
        have h8 := h7 j (by simpa using hj)
        rw [hbw.cell (World.block_lt_of_cell? w0 _ h8), h8]; simp [i32s]
      have hc := hcell k hlt
      have hd := M1.mk_drop rs k hlt
      have hacc1 := Lib.hid (hacc.out.trans (congrArg (acc ++ ·) hd))
      have hx := Lib.hid (rfl : M1.piece rs[k] (M1.prev rs k) = M1.piece rs[k] (M1.prev rs k))
      have fin0 : ∀ (y : Int) (w2 : World) (v2 : Value), M1.piece rs[k] (M1.prev rs k) = [y] → w2.ownsRow w0.heap.size 21 1 v2 (acc.length + 1) (i32s acc ++ [.int .i32 y]) → wr.grownBy w2 u4.ownBlock →
          ∃ (k' : Nat) (acc' : List Int), Value.int .i64 ((k : Int) + 1) = .int .i64 k' ∧ k' ≤ rs.length ∧ acc'.length ≤ k' ∧ w2.ownsRow w0.heap.size 21 1 v2 acc'.length (i32s acc') ∧ Below w0.heap.size w0 w2 ∧ Hid (M1.mk false rs = acc' ++ M1.mk (M1.prev rs k') (rs.drop k')) := by
        intro y w2 v2 hp ho hg
        refine ⟨k + 1, acc ++ [y], by go_num, by omega, by simp; omega, ?_, below_row hbw hown hg hbw.size (Nat.le_refl _), ?_⟩
        · rw [i32s_append, List.length_append]; exact ho
        · show _ = _
          rw [hacc1.out, hp, List.append_assoc]
      have fin := Lib.hid fin0
      clear h5 h7 hd h4 hacc fin0 hx
      have hbz := hbw.size
      by_cases h13 : rs[k] = 13
      · have hp : M1.piece rs[k] (M1.prev rs k) = [10] := by rw [M1.piece, if_pos h13]
        have hp := Lib.hid hp
        rw [h13] at hc
        clear h13 hcell
        go_wp2_with (at_builtin; refine wpList_app1 _ _ rfl _ _ 62 21 rfl w0.heap.size Try.underlying62 info32' rfl _ _ _ rfl hown rfl rfl (by omega) (by omega) (by have := hbw.size; omega) ?_)
        intro v' w2 hown2 hgrow
        go_wp2
        go_roundw
        case rel => exact fin.out _ _ _ hp.out hown2 hgrow
        case measure => simp [intOf]; omega
      by_cases h10 : rs[k] = 10
      · rw [h10] at hc
        by_cases hk0 : k = 0
        · subst hk0
          have hp : M1.piece rs[0] (M1.prev rs 0) = [10] := by rw [M1.piece, if_neg h13, if_neg (by simp [M1.prev]), if_neg (by omega), h10]
          have hp := Lib.hid hp
          have hak' : acc.length ≤ 1 := by omega
          have hc : wr.cell? ⟨b, off, none⟩ = some (.int .i32 10) := hc
          clear h13 h10 hcell hak
          go_wp2_with (at_builtin; refine wpList_app1 _ _ rfl _ _ 62 21 rfl w0.heap.size Try.underlying62 info32' rfl _ _ _ rfl hown rfl rfl (by omega) (by omega) (by have := hbw.size; omega) ?_)
          intro v' w2 hown2 hgrow
          go_wp2
          go_roundw
          case rel => exact fin.out _ _ _ hp.out hown2 hgrow
          case measure => simp [intOf]; omega
        · obtain ⟨j, rfl⟩ : ∃ j, k = j + 1 := ⟨k - 1, by omega⟩
          have hcj := hcell j (by omega)
          by_cases hj : rs[j]'(by omega) = 13
          · have hp : M1.piece rs[j + 1] (M1.prev rs (j + 1)) = [] := by
              have hpv : M1.prev rs (j + 1) = true := by simp [M1.prev, List.getD_eq_getElem?_getD, List.getElem?_eq_getElem (show j < rs.length by omega), hj]
              rw [M1.piece, if_neg h13, if_pos ⟨h10, hpv⟩]
            have hr2 : Hid (M1.mk false rs = acc ++ M1.mk (M1.prev rs (j + 1 + 1)) (rs.drop (j + 1 + 1))) := by
              show _ = _
              rw [hacc1.out, hp, List.nil_append]
            rw [hj] at hcj
            clear h13 h10 hcell hj fin
            go_wp2
            go_roundw
            case rel => exact ⟨j + 1 + 1, acc, by go_num, by omega, by omega, hown, hbw, hr2⟩
            case measure => simp [intOf]; omega
          · have hp : M1.piece rs[j + 1] (M1.prev rs (j + 1)) = [10] := by
              rw [M1.piece, if_neg h13, if_neg ?_, if_neg (by omega), h10]
              intro h
              have h2 := h.2
              simp [M1.prev, List.getD_eq_getElem?_getD, List.getElem?_eq_getElem (show j < rs.length by omega)] at h2
              exact hj h2
            have hp := Lib.hid hp
            generalize rs[j]'(by omega) = y at *
            have hyb : (y == 13) = false := by simpa using hj
            clear h13 h10 hcell hj
            go_wp2_with (at_builtin; refine wpList_app1 _ _ rfl _ _ 62 21 rfl w0.heap.size Try.underlying62 info32' rfl _ _ _ rfl hown rfl rfl (by omega) (by omega) (by have := hbw.size; omega) ?_)
            intro v' w2 hown2 hgrow
            go_wp2
            go_roundw
            case rel => exact fin.out _ _ _ hp.out hown2 hgrow
            case measure => simp [intOf]; omega
      by_cases h0 : rs[k] = 0
      · have hp : M1.piece rs[k] (M1.prev rs k) = [65533] := by rw [M1.piece, if_neg h13, if_neg (fun h => h10 h.1), if_pos h0]
        have hp := Lib.hid hp
        rw [h0] at hc
        clear h13 h10 hcell
        go_wp2_with (at_builtin; refine wpList_app1 _ _ rfl _ _ 62 21 rfl w0.heap.size Try.underlying62 info32' rfl _ _ _ rfl hown rfl rfl (by omega) (by omega) (by have := hbw.size; omega) ?_)
        intro v' w2 hown2 hgrow
        go_wp2
        go_roundw
        case rel => exact fin.out _ _ _ hp.out hown2 hgrow
        case measure => simp [intOf]; omega
      have hp : M1.piece rs[k] (M1.prev rs k) = [rs[k]] := by rw [M1.piece, if_neg h13, if_neg (fun h => h10 h.1), if_neg h0]
      have hp := Lib.hid hp
      generalize rs[k] = x at *
      have h13b : (x == 13) = false := by simpa using h13
      have h10b : (x == 10) = false := by simpa using h10
      have h0b : (x == 0) = false := by simpa using h0
      clear h13 h10 h0 hcell
      go_wp2_with (at_builtin; refine wpList_app1 _ _ rfl _ _ 62 21 rfl w0.heap.size Try.underlying62 info32' rfl _ _ _ rfl hown rfl rfl (by omega) (by omega) (by have := hbw.size; omega) ?_)
      intro v' w2 hown2 hgrow
      go_wp2
      go_roundw
      case rel => exact fin.out _ _ _ hp.out hown2 hgrow
      case measure => simp [intOf]; omega
    · clear h5 h4
      have h := hacc.out
      rw [List.drop_of_length_le (by omega), M1.mk, List.append_nil] at h
      go_wp2_with fail
      refine (ref01Text _ acc _ (Sl.own hown) ?_ (by omega)).mono ?_
      · intro r hr
        rw [← h] at hr
        have := (hok.out r hr).1
        unfold M1.okRune at this
        omega
      rintro e w1 ⟨rfl, hb1⟩
      go_wp2
      go_ret
      rw [hr.out, h]
      exact ⟨rfl, (hb0.trans (hbw.mono hz0)).trans (hb1.mono (by have := hbw.size; omega))⟩

set_option maxHeartbeats 1000000 in
set_option maxRecDepth 100000 in
theorem ref01Is (s : ByteArray) (w : World) (hs : s.size ≤ 268435456) :
    Calls Try.prog 53 #[.string s] w fun e w' => e = .returned (.bool (M1.isB s.data.toList)) ∧ Below w.heap.size w w' := by
  have hcv := Lib.run_convert_string_bytes (P := Try.prog) w 9 22 5 s Try.underlying9 Try.underlying22 Try.underlying5
  have hS := Sl.bytes w 5 s (by omega)
  have hB := below_bytesWorld w 5 s
  generalize grownCap w s.size 0 5 = cap at *
  generalize Lib.bytesWorld w 5 s = w0 at *
  have hz := hB.size
  have hi := M1.isB_right_iff s.data.toList
  go_enter Try.func53, Try.ntmps53
  go_wp2_with fail
  refine (ref01Right _ s.data.toList w0 hS (show s.data.toList.length ≤ 268435456 from hs)).mono ?_
  rintro e w1 ⟨rfl, hb1⟩
  go_wp2
  go_ret
  refine ⟨?_, hB.trans (hb1.mono hz)⟩
  have e : (M1.right s.data.toList == s.data.toList) = M1.isB s.data.toList := by
    rw [Bool.eq_iff_iff, beq_iff_eq]; exact hi.symm
  rw [← e]
  simp [ByteArray.toList_eq]

set_option maxHeartbeats 1000000 in
set_option maxRecDepth 100000 in
theorem ref01Fold (s : ByteArray) (w : World) (hs : s.size ≤ 1073741824) :
    Calls Try.prog 48 #[.string s] w fun e w' => e = .returned (.string ⟨(M1.fold s.data.toList).toArray⟩) ∧ Below w.heap.size w w' := by
  go_enter Try.func48, Try.ntmps48
  go_wp2
  go_loopw [3, 4] (fun v3 i wr => ∃ (k : Nat), i = .int .i64 k ∧ k ≤ s.size ∧ wr.ownsRow w.heap.size 5 1 v3 k (u8s (M1.fold (s.data.toList.take k))) ∧ Below w.heap.size w wr) (fun _ i _ => s.size - (intOf i).toNat)
  case atStart => exact ⟨0, rfl, by omega, World.ownsRow_nil _ _ _ _, Below.refl _ _⟩
  case round =>
    obtain ⟨k, rfl, hk, hown, hbw⟩ := hrel
    by_cases hlt : k < s.size
    · have hls : k < s.data.toList.length := hlt
      have hbz := hbw.size
      have e1 := Lib.hid (List.take_succ_eq_append_getElem (l := s.data.toList) hls)
      have hsm := M1.small_nat s[k]
      have hcl := s[k].toNat_lt
      have hcl : s[k].toNat < 256 := hcl
      by_cases hup : 65 ≤ s[k].toNat ∧ s[k].toNat ≤ 90
      · rw [if_pos hup] at hsm
        have hsm := Lib.hid hsm
        obtain ⟨h1, h2⟩ := hup
        go_wp2_with (at_builtin; refine wpList_app1 _ _ rfl _ _ 22 5 rfl w.heap.size Try.underlying22 infoU8 rfl _ _ _ rfl hown rfl rfl (by omega) (by omega) (by have := hbw.size; omega) ?_)
        intro v' w2 hown2 hgrow
        go_wp2
        go_roundw
        case rel =>
          refine ⟨k + 1, by go_num, by omega, ?_, below_row hbw hown hgrow hbz (Nat.le_refl _)⟩
          rw [e1.out, M1.fold, List.map_append, u8s_append]
          have e3 : u8s (List.map M1.small [s.data.toList[k]]) = [.int .u8 ((s[k].toNat : Int) + 32)] := by
            show [Value.int .u8 ((M1.small s[k]).toNat : Int)] = _
            rw [hsm.out]; rfl
          rw [e3]; exact hown2
        case measure => simp [intOf]; omega
      · rw [if_neg hup] at hsm
        have hsm := Lib.hid hsm
        have hup2 : s[k].toNat < 65 ∨ 90 < s[k].toNat := by omega
        clear hup
        have hadd : ∀ v2 w2, World.ownsRow w2 w.heap.size 5 1 v2 (k + 1) (u8s (M1.fold (s.data.toList.take k)) ++ [.int .u8 (s[k].toNat : Int)]) → World.ownsRow w2 w.heap.size 5 1 v2 (k + 1) (u8s (M1.fold (s.data.toList.take (k + 1)))) := by
          intro v2 w2 h
          rw [e1.out, M1.fold, List.map_append, u8s_append]
          have e3 : u8s (List.map M1.small [s.data.toList[k]]) = [.int .u8 (s[k].toNat : Int)] := by
            show [Value.int .u8 ((M1.small s[k]).toNat : Int)] = _
            rw [hsm.out]
          rw [e3]; exact h
        have hadd := Lib.hid hadd
        rcases hup2 with hup | hup
        · go_wp2_with (at_builtin; refine wpList_app1 _ _ rfl _ _ 22 5 rfl w.heap.size Try.underlying22 infoU8 rfl _ _ _ rfl hown rfl rfl (by omega) (by omega) (by have := hbw.size; omega) ?_)
          intro v' w2 hown2 hgrow
          go_wp2
          go_roundw
          case rel => exact ⟨k + 1, by go_num, by omega, hadd.out _ _ hown2, below_row hbw hown hgrow hbz (Nat.le_refl _)⟩
          case measure => simp [intOf]; omega
        · go_wp2_with (at_builtin; refine wpList_app1 _ _ rfl _ _ 22 5 rfl w.heap.size Try.underlying22 infoU8 rfl _ _ _ rfl hown rfl rfl (by omega) (by omega) (by have := hbw.size; omega) ?_)
          intro v' w2 hown2 hgrow
          go_wp2
          go_roundw
          case rel => exact ⟨k + 1, by go_num, by omega, hadd.out _ _ hown2, below_row hbw hown hgrow hbz (Nat.le_refl _)⟩
          case measure => simp [intOf]; omega
    · obtain rfl : k = s.size := by omega
      rw [List.take_of_length_le (l := s.data.toList) (show s.data.toList.length ≤ s.size from Nat.le_refl _)] at hown
      have hcv := (Sl.own hown).toString 22 9 5 Try.underlying22 Try.underlying5 Try.underlying9
      go_wp2
      go_ret
      exact ⟨rfl, hbw⟩

theorem Sl.i32 {w : World} {xs : List Int} {a : Option Addr} {n cap : Nat} (h : Sl w (.slice a n cap) (i32s xs)) (k : Nat) (hk : k < xs.length) : ∃ b off, a = some ⟨b, off, none⟩ ∧ b < w.heap.size ∧ w.cell? ⟨b, off + k, none⟩ = some (.int .i32 xs[k]) := by
  obtain ⟨a', cap', h1, h2, h3, h4, h5⟩ := h
  cases h1
  obtain ⟨b, off, h6, h7⟩ := h5 (ne_of_lt (k := k) (by simpa using hk))
  have h8 := h7 k (by simpa using hk)
  refine ⟨b, off, h6, World.block_lt_of_cell? w _ h8, ?_⟩
  rw [h8]; simp [i32s]


end Go.Proofs.Ytlknmnldblodbaa

/- Calls of package strings in this program: a builder's WriteString, IndexByte, Contains at one byte, Clone. -/
namespace Go.Proofs.Ytlknmnldblodbaa
open Go.Shelf Go.RowKit

set_option maxHeartbeats 2000000 in
set_option maxRecDepth 100000 in
theorem bWriteString (B b : Nat) (bs : List Value) (s : ByteArray) (w : World) (h : Lib.IsBuilderF 92 5 B b bs w) (hlen : bs.length + s.size ≤ 140737488355328) (hBw : B ≤ w.heap.size) :
    Calls Try.prog 83 #[.pointer (some ⟨b, 0, none⟩), .string s] w fun e w' => e = .returned (.tuple #[.int .i64 s.size, .nilIface]) ∧ (Lib.BuilderAtF 92 5 B b (.pointer (some ⟨b, 0, none⟩)) (bs ++ Lib.strCells s) w' ∧ Below B w w' ∧ Lib.OthersKept 5 (some b) w w') := by
  obtain ⟨i0, hi, hz0, hz1, hz2⟩ := info_parts infoU8
  go_enter Try.func83, Try.ntmps83
  go_wp2_with (go_at_call 100; refine (copyCheck_k B b bs _ h).mono ?_)
  rintro e w1 ⟨rfl, h1, hb1, hk1⟩
  obtain ⟨hB, v, hbk, hown, hne⟩ := h1
  have c0 : w1.cell? ⟨b, 0, none⟩ = some (.pointer (some ⟨b, 0, none⟩)) := by rw [Lib.cell_of_heap hbk]; rfl
  have c1 : w1.cell? ⟨b, 1, none⟩ = some v := by rw [Lib.cell_of_heap hbk]; rfl
  go_wp2_with (at_builtin; refine Lib.wpList_append_own_stringF _ rfl _ _ 22 9 rfl B 5 i0 Try.underlying22 Try.underlying9 hi hz0 hz1 hz2 _ _ _ rfl hown s rfl ?c3 ?c4 ?c5 ?_)
  case c3 => unfold maxLen; omega
  case c4 => omega
  case c5 => have := hb1.size; omega
  intro v' w2 hown' hgrow _
  have hlt : b < w1.heap.size := by
    rcases Nat.lt_or_ge b w1.heap.size with h' | h'
    · exact h'
    · simp [Array.getElem?_eq_none h'] at hbk
  have hb2 : w2.heap[b]? = some (.cells #[.pointer (some ⟨b, 0, none⟩), v] 92 (0, 0)) := by
    rw [hgrow.block b hlt (fun e => hne e.symm)]
    exact hbk
  have d0 : w2.cell? ⟨b, 0, none⟩ = some (.pointer (some ⟨b, 0, none⟩)) := by rw [Lib.cell_of_heap hb2]; rfl
  have d1 : w2.cell? ⟨b, 1, none⟩ = some v := by rw [Lib.cell_of_heap hb2]; rfl
  have f1 : w2.frozen? ⟨b, 1, none⟩ = false := Lib.frozen_of_heap hb2 1
  obtain ⟨ao, n', cap, rfl⟩ : ∃ ao n' cap, v' = .slice ao n' cap := by
    rcases hown'.2 with ⟨hv, _⟩ | ⟨g, cap, cur, fz, hv, _⟩
    · exact ⟨_, _, _, hv⟩
    · exact ⟨_, _, _, hv⟩
  go_wp2
  go_ret2
  refine ⟨rfl, ?_, ?_, (hk1.grown hgrow (Lib.ownsRowF_kind hown)).setCell ⟨b, 1, none⟩ rfl _⟩
  · exact Lib.BuilderAtF.put (T := 92) (e := 5) hB hb2 (bs' := bs ++ Lib.strCells s) (by simpa [Lib.strCells_length] using hown') (by decide)
  · exact (hb1.grown hgrow (by have := hb1.size; omega) (fun k hk => (hown.lt k hk).1)).setCell (p := ⟨b, 1, none⟩) hB _

set_option maxHeartbeats 1000000 in
set_option maxRecDepth 100000 in
theorem liteIndexByte (s : ByteArray) (c : Int) (w : World) :
    Calls Try.prog 69 #[.string s, .int .u8 c] w fun e w' => e = .returned (.int .i64 (Lib.indexByte s.data.toList c.toNat.toUInt8)) ∧ w' = w := by
  go_enter Try.func69, Try.ntmps69
  go_wp2
  rw [run_callFunc_extern Try.func95 (by kernel_rfl) (by kernel_rfl) (by kernel_rfl) (e := Extern.BytealgIndexByte.indexByte) (by kernel_rfl), Lib.run_indexByteString]
  simp only [Result.andThen]
  rw [Oper.upon_value]
  go_wp2
  go_ret
  exact ⟨rfl, rfl⟩

set_option maxHeartbeats 1000000 in
theorem sIndexByte (s : ByteArray) (c : Int) (w : World) :
    Calls Try.prog 44 #[.string s, .int .u8 c] w fun e w' => e = .returned (.int .i64 (Lib.indexByte s.data.toList c.toNat.toUInt8)) ∧ w' = w := by
  go_enter Try.func44, Try.ntmps44
  go_wp2_with (go_at_call 69; refine (liteIndexByte _ _ _).mono ?_; rintro e w' ⟨rfl, rfl⟩)
  go_ret
  exact ⟨rfl, rfl⟩

set_option maxHeartbeats 2000000 in
set_option maxRecDepth 100000 in
theorem liteIndex1 (s : ByteArray) (c : UInt8) (w : World) :
    Calls Try.prog 107 #[.string s, .string ⟨#[c]⟩] w fun e w' => e = .returned (.int .i64 (Lib.indexByte s.data.toList c)) ∧ w' = w := by
  go_enter Try.func107, Try.ntmps107
  go_wp2_with (go_at_call 69; refine (liteIndexByte _ _ _).mono ?_; rintro e w' ⟨rfl, rfl⟩)
  · have h : ([c] == s.toList) = true := by assumption
    go_ret
    refine ⟨?_, rfl⟩
    have e : s.data.toList = [c] := by rw [← Lib.toList_data]; exact (beq_iff_eq.1 h).symm
    rw [e]
    simp [Lib.indexByte]
  · go_ret
    exact ⟨rfl, rfl⟩

set_option maxHeartbeats 1000000 in
theorem sIndex1 (s : ByteArray) (c : UInt8) (w : World) :
    Calls Try.prog 99 #[.string s, .string ⟨#[c]⟩] w fun e w' => e = .returned (.int .i64 (Lib.indexByte s.data.toList c)) ∧ w' = w := by
  go_enter Try.func99, Try.ntmps99
  go_wp2_with (go_at_call 107; refine (liteIndex1 _ _ _).mono ?_; rintro e w' ⟨rfl, rfl⟩)
  go_ret
  exact ⟨rfl, rfl⟩

set_option maxHeartbeats 1000000 in
theorem sContains1 (s : ByteArray) (c : UInt8) (w : World) :
    Calls Try.prog 81 #[.string s, .string ⟨#[c]⟩] w fun e w' => e = .returned (.bool (decide (0 ≤ Lib.indexByte s.data.toList c))) ∧ w' = w := by
  go_enter Try.func81, Try.ntmps81
  go_wp2_with (go_at_call 99; refine (sIndex1 _ _ _).mono ?_; rintro e w' ⟨rfl, rfl⟩)
  go_ret
  exact ⟨rfl, rfl⟩

def Try.lays316_ren : Go.Shelf.Ren := ⟨fun | 316 => 87 | n => n, fun | 0 => 0 | 3 => 3 | 4 => 4 | 5 => 5 | 9 => 9 | 37 => 22 | 127 => 105 | n => n, fun | n => n⟩
theorem Try.lays316 : Go.Proofs.LaysM.n316 Try.prog Try.lays316_ren := {
  mixed := by kernel_rfl
  f316 := Try.func87.trans (congrArg some (by kernel_rfl))
  t0 := Try.underlying0
  a0 := Try.isAgg0
  z0 := Try.sizeOf0
  v0 := Try.zeroValue0
  t3 := Try.underlying3
  a3 := Try.isAgg3
  z3 := Try.sizeOf3
  v3 := Try.zeroValue3
  t4 := Try.underlying4
  a4 := Try.isAgg4
  z4 := Try.sizeOf4
  v4 := Try.zeroValue4
  t5 := Try.underlying5
  a5 := Try.isAgg5
  z5 := Try.sizeOf5
  v5 := Try.zeroValue5
  t9 := Try.underlying9
  a9 := Try.isAgg9
  z9 := Try.sizeOf9
  v9 := Try.zeroValue9
  t37 := Try.underlying22
  a37 := Try.isAgg22
  z37 := Try.sizeOf22
  v37 := Try.zeroValue22
  t127 := Try.underlying105
  a127 := Try.isAgg105
  z127 := Try.sizeOf105
  v127 := Try.zeroValue105
  i0 := by kernel_rfl
  i3 := by kernel_rfl
  i4 := by kernel_rfl
  i5 := by kernel_rfl
  i9 := by kernel_rfl
  i37 := by kernel_rfl
  i127 := by kernel_rfl }
theorem liteClone (s : ByteArray) (w : World) (hs : s.size ≤ 281474976710656) :
    Calls Try.prog 87 #[.string s] w fun e w' => e = .returned (.string s) ∧ Below w.heap.size w w' := Any.stringslite_Clone Try.lays316 s w hs

set_option maxHeartbeats 1000000 in
theorem sClone (s : ByteArray) (w : World) (hs : s.size ≤ 281474976710656) :
    Calls Try.prog 58 #[.string s] w fun e w' => e = .returned (.string s) ∧ Below w.heap.size w w' := by
  go_enter Try.func58, Try.ntmps58
  go_wp2_with (go_at_call 87; refine (liteClone _ _ hs).mono ?_; rintro e w' ⟨rfl, hb⟩)
  go_ret
  exact ⟨rfl, hb⟩
end Go.Proofs.Ytlknmnldblodbaa

/- What came in: a row of numbers as a slice that reads; a text as bytes and back; frames one behind the other. -/
namespace Go.Proofs.Ytlknmnldblodbaa
open Go.RowKit

theorem add_plain' (b off j : Nat) : (⟨b, off, none⟩ : Addr).add j = ⟨b, off + j, none⟩ := by unfold Addr.add; split <;> simp_all

theorem sl_row {k : IntKind} {w : World} {x : Addr} {len cap : Nat} {zs : List Int} (hl : len ≤ cap) (hm : cap ≤ maxLen) (hz : zs.length = cap) (hc : ∀ i, i < zs.length → w.cell? (x.add i) = some (.int k (zs.getD i 0))) :
    Sl w (.slice (some x) len cap) ((zs.take len).map (Value.int k)) := by
  have hlen : ((zs.take len).map (Value.int k)).length = len := by simp; omega
  unfold maxLen at hm
  refine ⟨some x, cap, by rw [hlen], by rw [hlen]; exact hl, by omega, (fun h => by cases h), fun hne => ?_⟩
  have hpos : 0 < len := by
    rcases Nat.eq_zero_or_pos len with h | h
    · subst h; simp at hne
    · exact h
  obtain ⟨b, off, spot⟩ := x
  have hspot : spot = none := by simpa [Addr.add] using World.cell?_spot (hc 0 (by omega))
  subst hspot
  refine ⟨b, off, rfl, fun j hj => ?_⟩
  rw [hlen] at hj
  have h := hc j (by omega)
  rw [add_plain'] at h
  rw [h]
  simp [List.getD_eq_getElem?_getD, List.getElem?_eq_getElem (show j < zs.length by omega)]

theorem sl_row8 {w : World} {x : Addr} {len cap : Nat} {zs : List Int} (hl : len ≤ cap) (hm : cap ≤ maxLen) (hz : zs.length = cap) (hc : ∀ i, i < zs.length → w.cell? (x.add i) = some (.int .u8 (zs.getD i 0))) (hw : ∀ n ∈ zs, (Lit.int .u8 n).wf = true) :
    Sl w (.slice (some x) len cap) (u8s ((zs.take len).map fun n => n.toNat.toUInt8)) := by
  have h := sl_row hl hm hz hc
  have e : u8s ((zs.take len).map fun n => n.toNat.toUInt8) = (zs.take len).map (Value.int .u8) := by
    simp only [u8s, Lib.byteCells, List.map_map]
    apply List.map_congr_left
    intro n hn
    have h1 := hw n (List.mem_of_mem_take hn)
    have h2 : IntKind.u8.min = 0 := rfl
    have h3 : IntKind.u8.max = 255 := rfl
    simp only [Lit.wf, Bool.and_eq_true, decide_eq_true_eq, h2, h3] at h1
    have h4 := M1.toNat_u8 n.toNat (by omega)
    simp only [Function.comp, h4]
    congr 1
    omega
  rw [e]; exact h

theorem Sl.fresh' (w : World) (e : TypeId) (xs : List Value) (n : Nat) (hn : xs.length = n) (h : n ≤ 4000) : Sl (w.alloc (.cells xs.toArray e)) (.slice (some ⟨w.heap.size, 0, none⟩) n n) xs := by
  subst hn
  refine ⟨_, xs.length, rfl, Nat.le_refl _, by omega, (fun h => by cases h), fun _ => ⟨_, 0, rfl, fun j hj => ?_⟩⟩
  rw [Nat.zero_add, World.cell?_alloc_at _ _ _ _ rfl]
  simp [hj]


theorem bt {w w1 w2 : World} (h : Below w.heap.size w w1) (k : Below w1.heap.size w1 w2) : Below w.heap.size w w2 := h.trans (k.mono h.size)

/-- What '[]byte(s)' leaves, said without the row's size. -/
theorem conv_bytes (w : World) (s : ByteArray) (hs : s.size ≤ 9223372036854775807) : ∃ v w', (convert 9 22 (.string s)).run Try.prog w = .ok v w' ∧ Sl w' v (u8s s.data.toList) ∧ Below w.heap.size w w' :=
  ⟨_, _, Lib.run_convert_string_bytes (P := Try.prog) w 9 22 5 s Try.underlying9 Try.underlying22 Try.underlying5, Sl.bytes w 5 s hs, below_bytesWorld w 5 s⟩
theorem conv_back {w : World} {v : Value} {l : List UInt8} (h : Sl w v (u8s l)) : (convert 22 9 v).run Try.prog w = .ok (.string ⟨l.toArray⟩) w :=
  h.toString 22 9 5 Try.underlying22 Try.underlying5 Try.underlying9
end Go.Proofs.Ytlknmnldblodbaa

/- Plain facts on character references: what one stands for, texts decoded, texts written. No program in it. -/
namespace Go.Proofs.Ytlknmnldblodbaa
namespace M2
open M1

/-- The names, and their characters. -/
def tbl : List (List UInt8 × Nat) :=
  [([97, 109, 112], 38), ([108, 116], 60), ([103, 116], 62), ([113, 117, 111, 116], 34), ([97, 112, 111, 115], 39), ([110, 98, 115, 112], 160), ([99, 111, 112, 121], 169), ([114, 101, 103], 174), ([100, 101, 103], 176),
   ([109, 105, 100, 100, 111, 116], 183), ([116, 105, 109, 101, 115], 215), ([110, 100, 97, 115, 104], 8211), ([109, 100, 97, 115, 104], 8212), ([104, 101, 108, 108, 105, 112], 8230), ([101, 117, 114, 111], 8364)]
def nm (s : List UInt8) : Option Nat := (tbl.find? (fun p => p.1 == s)).map (·.2)

theorem nm_mem {s : List UInt8} {n : Nat} (h : nm s = some n) : (s, n) ∈ tbl := by
  unfold nm at h
  obtain ⟨p, h1, h2⟩ := Option.map_eq_some_iff.1 h
  have h3 := List.mem_of_find?_eq_some h1
  have h4 := List.find?_some h1
  have h5 : p.1 = s := by simpa using h4
  rw [← h5, ← h2]
  exact h3
theorem nm_none {s : List UInt8} (h : ∀ p ∈ tbl, p.1 ≠ s) : nm s = none := by
  unfold nm
  rw [List.find?_eq_none.2 (fun p hp => by simpa using h p hp)]
  rfl
theorem tbl_facts : ∀ p ∈ tbl, p.1.length ≤ 6 ∧ 1 ≤ p.1.length ∧ (∀ c ∈ p.1, c.toNat < 128 ∧ c.toNat ≠ 59) ∧ p.1.head? ≠ some 35 ∧ okRune p.2 ∧ p.2 ≠ 0 ∧ p.2 ≠ 13 := by decide
theorem tbl_apart : tbl.Pairwise (fun p q => p.1 ≠ q.1) := by decide
theorem nm_of_mem {p : List UInt8 × Nat} (h : p ∈ tbl) : nm p.1 = some p.2 := by
  revert p
  decide

/-- What a digit of sixteen counts. -/
def digZ (r : Int) : Int := if 48 ≤ r ∧ r ≤ 57 then r - 48 else if 97 ≤ r ∧ r ≤ 102 then r - 97 + 10 else if 65 ≤ r ∧ r ≤ 70 then r - 65 + 10 else -1
theorem digZ_bd (r : Int) : -1 ≤ digZ r ∧ digZ r ≤ 15 := by
  unfold digZ
  repeat' split
  all_goals omega
theorem digZ_big (r : Int) (h : 128 ≤ r) : digZ r = -1 := by
  unfold digZ
  repeat' split
  all_goals omega
def isD (b : Nat) (c : UInt8) : Bool := decide (0 ≤ digZ c.toNat ∧ digZ c.toNat < b)
theorem isD_59 (b : Nat) : isD b 59 = false := by
  have : digZ ((59 : UInt8).toNat : Int) = -1 := by decide
  unfold isD
  rw [this]
  simp
theorem isD_ascii {b : Nat} {c : UInt8} (h : isD b c = true) : c.toNat < 128 := by
  unfold isD at h
  rcases Nat.lt_or_ge c.toNat 128 with h1 | h1
  · exact h1
  · rw [digZ_big _ (by omega)] at h
    simp at h

theorem isD_no {b : Nat} {c : UInt8} (h : isD b c = false) : digZ c.toNat < 0 ∨ (b : Int) ≤ digZ c.toNat := by
  unfold isD at h
  have := of_decide_eq_false h
  omega
theorem dec_lo (c : UInt8) (t : List UInt8) (h : c.toNat < 128) : dec (c :: t) = (c.toNat, 1) := by
  simp only [dec, List.getD_cons_zero]
  rw [if_pos h]
theorem dec_hi (c : UInt8) (t : List UInt8) (h : 128 ≤ c.toNat) : 128 ≤ (dec (c :: t)).1 := by
  rcases dec_cases (c :: t) (by simp) with ⟨h1, h2, _⟩ | ⟨h1, _⟩
  · rcases Nat.lt_or_ge (dec (c :: t)).1 128 with h3 | h3
    · exfalso
      obtain ⟨a, u, h4, h5, _⟩ := enc_head _ h1
      rw [h4] at h2
      have h6 : c = a := by simp at h2; exact h2.1
      have := h5 h3
      rw [← h6] at this
      omega
    · exact h3
  · rw [h1]; decide

def val (b : Nat) : List UInt8 → Int
  | [] => 0
  | c :: t => digZ c.toNat * (b : Int) ^ t.length + val b t
theorem val_snoc (b : Nat) (l : List UInt8) (c : UInt8) : val b (l ++ [c]) = val b l * b + digZ c.toNat := by
  induction l with
  | nil => simp [val]
  | cons d t ih =>
    rw [List.cons_append, val, val, ih, List.length_append, List.length_singleton, Int.pow_succ, Int.add_mul, ← Int.mul_assoc]
    omega
theorem val_bd (b : Nat) (l : List UInt8) (h : ∀ c ∈ l, isD b c = true) : 0 ≤ val b l ∧ val b l < (b : Int) ^ l.length := by
  induction l with
  | nil => simp [val]
  | cons d t ih =>
    have ih := ih (fun c hc => h c (by simp [hc]))
    have hd := h d (by simp)
    unfold isD at hd
    have hd := of_decide_eq_true hd
    rw [val, List.length_cons, Int.pow_succ]
    have h1 : digZ d.toNat + 1 ≤ b := by omega
    have h2 : (digZ d.toNat + 1) * (b : Int) ^ t.length ≤ b * (b : Int) ^ t.length := Int.mul_le_mul_of_nonneg_right h1 (by omega)
    have h3 : 0 ≤ digZ d.toNat * (b : Int) ^ t.length := Int.mul_nonneg hd.1 (by omega)
    rw [Int.add_mul, Int.one_mul] at h2
    rw [Int.mul_comm ((b : Int) ^ t.length) b]
    omega

/-- The digits at the beginning, at most m of them. -/
def digs (b m : Nat) (l : List UInt8) : List UInt8 := (l.takeWhile (isD b)).take m
theorem digs_all (b m : Nat) (l : List UInt8) : ∀ c ∈ digs b m l, isD b c = true := fun c hc => by
  have h1 := List.mem_of_mem_take hc
  have h2 : l.takeWhile (isD b) = l.takeWhile (isD b) := rfl
  exact (List.all_eq_true.1 (List.all_takeWhile (l := l) (p := isD b))) c h1
theorem digs_len (b m : Nat) (l : List UInt8) : (digs b m l).length ≤ m ∧ (digs b m l).length ≤ l.length := by
  unfold digs
  rw [List.length_take]
  have := (List.takeWhile_sublist (l := l) (isD b)).length_le
  omega
theorem digs_of (b m : Nat) (l : List UInt8) (k : Nat) (hk : k ≤ l.length) (hm : k ≤ m) (ha : ∀ c ∈ l.take k, isD b c = true) (he : k = m ∨ k = l.length ∨ ∃ c, l[k]? = some c ∧ isD b c = false) : digs b m l = l.take k := by
  have h1 : l.takeWhile (isD b) = l.take k ++ (l.drop k).takeWhile (isD b) := by
    conv => lhs; rw [← List.take_append_drop k l]
    rw [List.takeWhile_append_of_pos ha]
  unfold digs
  rw [h1]
  have hl : (l.take k).length = k := by rw [List.length_take]; omega
  rcases he with rfl | rfl | ⟨c, hc, hn⟩
  · rw [List.take_append_of_le_length (by omega), List.take_of_length_le (by omega)]
  · rw [List.drop_length, List.takeWhile_nil, List.append_nil, List.take_of_length_le (by omega)]
  · have h2 : l.drop k = c :: l.drop (k + 1) := by
      obtain ⟨h3, h4⟩ := List.getElem?_eq_some_iff.1 hc
      rw [List.drop_eq_getElem_cons h3, h4]
    rw [h2, List.takeWhile_cons, hn, if_neg (by simp), List.append_nil, List.take_of_length_le (by omega)]
theorem digs_prefix (b m : Nat) (l : List UInt8) : digs b m l = l.take (digs b m l).length := by
  have h1 : l.takeWhile (isD b) <+: l := List.takeWhile_prefix _
  have h2 : digs b m l <+: l := (List.take_prefix _ _).trans h1
  exact (List.prefix_iff_eq_take.1 h2)

/-- A number's character. -/
def chr (n : Int) : Int := if n = 0 ∨ n = 13 ∨ (55296 ≤ n ∧ n ≤ 57343) ∨ 1114111 < n then 65533 else n
theorem chr_ok (n : Int) (h : 0 ≤ n) : okRune (chr n) ∧ chr n ≠ 0 ∧ chr n ≠ 13 := by
  unfold chr okRune
  split <;> omega

/-- A reference by a number, its digits from place f on: what it stands for, and its length. -/
def num (f b m : Nat) (l : List UInt8) : Option (Int × Nat) :=
  if (digs b m (l.drop f)).length = 0 ∨ l[f + (digs b m (l.drop f)).length]? ≠ some 59 then none
  else some (chr (val b (digs b m (l.drop f))), f + (digs b m (l.drop f)).length + 1)
/-- A reference by a name. -/
def near (l : List UInt8) : List UInt8 := (l.drop 1).take 7
def named (l : List UInt8) : Option (Int × Nat) :=
  if Lib.indexByte (near l) 59 < 0 then none
  else (nm ((near l).take (Lib.indexByte (near l) 59).toNat)).map (fun (r : Nat) => ((r : Int), 1 + (Lib.indexByte (near l) 59).toNat + 1))
/-- The reference at the beginning. -/
def one (l : List UInt8) : Option (Int × Nat) :=
  if l.head? ≠ some 38 then none
  else if l.take 3 = [38, 35, 120] ∨ l.take 3 = [38, 35, 88] then num 3 16 6 l
  else if l.take 2 = [38, 35] then num 2 10 7 l
  else named l

/-- The document's own way: what stands between & and ; told. -/
def numR (b m : Nat) (ds : List UInt8) : Option Int := if 1 ≤ ds.length ∧ ds.length ≤ m ∧ ds.all (isD b) = true then some (chr (val b ds)) else none
def ownB (own : List UInt8) : Option Int :=
  if own.take 2 = [35, 120] ∨ own.take 2 = [35, 88] then numR 16 6 (own.drop 2)
  else if own.take 1 = [35] then numR 10 7 (own.drop 1)
  else (nm own).map Int.ofNat

theorem not_mem_get {l : List UInt8} {c : UInt8} (h : c ∉ l) (k : Nat) : l[k]? ≠ some c := fun e => h (List.mem_of_getElem? e)

theorem num_own (b m : Nat) (pre ds rest : List UInt8) (h59 : (59 : UInt8) ∉ ds) : num pre.length b m (pre ++ (ds ++ 59 :: rest)) = (numR b m ds).map (fun r => (r, pre.length + ds.length + 1)) := by
  have hd : (pre ++ (ds ++ 59 :: rest)).drop pre.length = ds ++ 59 :: rest := List.drop_left
  have hg : ∀ k, (pre ++ (ds ++ 59 :: rest))[pre.length + k]? = (ds ++ 59 :: rest)[k]? := fun k => by rw [List.getElem?_append_right (by omega)]; congr 1; omega
  unfold num
  rw [hd, hg]
  by_cases hall : ds.all (isD b) = true
  · have ha := List.all_eq_true.1 hall
    by_cases hm : ds.length ≤ m
    · have e : digs b m (ds ++ 59 :: rest) = ds := by
        have := digs_of b m (ds ++ 59 :: rest) ds.length (by simp) hm (by rw [List.take_left]; exact ha) (Or.inr (Or.inr ⟨59, by simp, isD_59 b⟩))
        rwa [List.take_left] at this
      rw [e]
      by_cases h0 : ds.length = 0
      · rw [if_pos (Or.inl h0), numR, if_neg (by omega)]; rfl
      · rw [if_neg (by simp [h0]), numR, if_pos ⟨by omega, hm, hall⟩]; rfl
    · have e : digs b m (ds ++ 59 :: rest) = ds.take m := by
        have := digs_of b m (ds ++ 59 :: rest) m (by simp; omega) (Nat.le_refl _) (by rw [List.take_append_of_le_length (by omega)]; exact fun c hc => ha c (List.mem_of_mem_take hc)) (Or.inl rfl)
        rwa [List.take_append_of_le_length (by omega)] at this
      have el : (ds.take m).length = m := by rw [List.length_take]; omega
      rw [e, el, if_pos (Or.inr ?_), numR, if_neg (by omega)]
      · rfl
      · rw [List.getElem?_append_left (by omega)]
        exact not_mem_get h59 m
  · have hnr : numR b m ds = none := if_neg (fun h => hall h.2.2)
    rw [hnr]
    have hp := digs_prefix b m (ds ++ 59 :: rest)
    have ha := digs_all b m (ds ++ 59 :: rest)
    have hl : (digs b m (ds ++ 59 :: rest)).length < ds.length := by
      rcases Nat.lt_or_ge (digs b m (ds ++ 59 :: rest)).length ds.length with h | h
      · exact h
      · exfalso
        apply hall
        rw [List.all_eq_true]
        intro c hc
        refine ha c ?_
        rw [hp, List.take_append, List.take_of_length_le h]
        simp [hc]
    rw [if_pos (Or.inr ?_)]
    · rfl
    · rw [List.getElem?_append_left hl]
      exact not_mem_get h59 _
theorem num_none (f b m : Nat) (l : List UInt8) (h : (59 : UInt8) ∉ l) : num f b m l = none := by
  unfold num
  rw [if_pos (Or.inr (not_mem_get h _))]

theorem indexByte_no (l : List UInt8) (c : UInt8) (h : c ∉ l) : Lib.indexByte l c = -1 := by
  induction l with
  | nil => rfl
  | cons d t ih =>
    unfold Lib.indexByte
    have h1 : d ≠ c := fun e => h (by simp [e])
    rw [if_neg (by simpa using h1), ih (fun e => h (by simp [e]))]
    rfl
theorem indexByte_at (a t : List UInt8) (c : UInt8) (h : c ∉ a) : Lib.indexByte (a ++ c :: t) c = a.length := by
  induction a with
  | nil => simp [Lib.indexByte]
  | cons d a ih =>
    have ih := ih (fun e => h (by simp [e]))
    have h1 : d ≠ c := fun e => h (by simp [e])
    rw [List.cons_append, Lib.indexByte, if_neg (by simpa using h1), ih, if_neg (by simp)]
    simp

theorem named_own (own rest : List UInt8) (h59 : (59 : UInt8) ∉ own) : named (38 :: (own ++ 59 :: rest)) = (nm own).map (fun (r : Nat) => ((r : Int), own.length + 2)) := by
  have hn : near (38 :: (own ++ 59 :: rest)) = (own ++ 59 :: rest).take 7 := rfl
  unfold named
  rw [hn]
  by_cases h : own.length ≤ 6
  · have e : (own ++ 59 :: rest).take 7 = own ++ 59 :: rest.take (6 - own.length) := by
      rw [List.take_append, List.take_of_length_le (by omega)]
      congr 1
      rw [show 7 - own.length = (6 - own.length) + 1 by omega, List.take_succ_cons]
    rw [e, indexByte_at _ _ _ h59, if_neg (by omega)]
    simp only [Int.toNat_natCast, List.take_left]
    congr 1
    funext r
    rw [show 1 + own.length + 1 = own.length + 2 by omega]
  · have e : (own ++ 59 :: rest).take 7 = own.take 7 := List.take_append_of_le_length (by omega)
    rw [e, indexByte_no _ _ (fun hc => h59 (List.mem_of_mem_take hc)), if_pos (by omega)]
    cases hno : nm own with
    | none => rfl
    | some n => exact absurd (tbl_facts _ (nm_mem hno)).1 h

theorem take3_cons (a : UInt8) (l : List UInt8) : (a :: l).take 3 = a :: l.take 2 := rfl
/-- (A) A reference's own bytes are those up to the first ;. -/
theorem one_own (own rest : List UInt8) (h59 : (59 : UInt8) ∉ own) : one (38 :: (own ++ 59 :: rest)) = (ownB own).map (fun r => (r, own.length + 2)) := by
  unfold one ownB
  rw [if_neg (by simp)]
  match own, h59 with
  | [], h59 =>
    rw [if_neg (by simp), if_neg (by simp), if_neg (by simp), if_neg (by simp), named_own [] rest h59]
    cases nm [] <;> rfl
  | [c], h59 =>
    by_cases hc : c = 35
    · subst hc
      have := num_own 10 7 [38, 35] [] rest (by simp)
      rw [if_neg (by simp), if_pos (by simp), if_neg (by simp), if_pos (by simp)]
      exact this
    · rw [if_neg (by simp [hc]), if_neg (by simp [hc]), if_neg (by simp [hc]), if_neg (by simp [hc]), named_own [c] rest h59]
      cases nm [c] <;> rfl
  | c :: d :: ds, h59 =>
    by_cases hc : c = 35
    · subst hc
      by_cases hd : d = 120 ∨ d = 88
      · have := num_own 16 6 [38, 35, d] ds rest (by simp at h59; exact h59.2)
        rw [if_pos (by simpa using hd), if_pos (by simpa using hd)]
        rw [show 38 :: (35 :: d :: ds ++ 59 :: rest) = [38, 35, d] ++ (ds ++ 59 :: rest) by simp]
        rw [show (3 : Nat) = ([38, 35, d] : List UInt8).length from rfl, this]
        simp only [List.drop_succ_cons, List.drop_zero, List.length_cons, List.length_nil]
        congr 1
        funext r
        rw [show 0 + 1 + 1 + 1 + ds.length + 1 = ds.length + 1 + 1 + 2 by omega]
      · have hd' : ¬ (d = 120) ∧ ¬ (d = 88) := by
          constructor
          · exact fun e => hd (Or.inl e)
          · exact fun e => hd (Or.inr e)
        have := num_own 10 7 [38, 35] (d :: ds) rest (by simp at h59 ⊢; exact h59)
        rw [if_neg (by simp [hd'.1, hd'.2]), if_pos (by simp), if_neg (by simp [hd'.1, hd'.2]), if_pos (by simp)]
        rw [show 38 :: (35 :: d :: ds ++ 59 :: rest) = [38, 35] ++ (d :: ds ++ 59 :: rest) by simp]
        rw [show (2 : Nat) = ([38, 35] : List UInt8).length from rfl, this]
        simp only [List.drop_succ_cons, List.drop_zero, List.length_cons, List.length_nil]
        congr 1
        funext r
        rw [show 0 + 1 + 1 + (ds.length + 1) + 1 = ds.length + 1 + (0 + 1 + 1 + 1) by omega]
    · rw [if_neg (by simp [hc]), if_neg (by simp [hc]), if_neg (by simp [hc]), if_neg (by simp [hc]), named_own _ rest h59]
      cases nm (c :: d :: ds) <;> rfl
theorem one_none (t : List UInt8) (h : (59 : UInt8) ∉ t) : one (38 :: t) = none := by
  have h' : (59 : UInt8) ∉ (38 :: t) := by simp [h]
  unfold one
  rw [if_neg (by simp), num_none _ _ _ _ h', num_none _ _ _ _ h']
  split
  · rfl
  split
  · rfl
  have hn : near (38 :: t) = t.take 7 := rfl
  unfold named
  rw [hn, indexByte_no _ _ (fun hc => h (List.mem_of_mem_take hc)), if_pos (by omega)]
theorem one_not (l : List UInt8) (h : l.head? ≠ some 38) : one l = none := if_pos h

/-- Either there is no ; or one is the first. -/
theorem semi_cases (t : List UInt8) : (59 : UInt8) ∉ t ∨ ∃ own rest, t = own ++ 59 :: rest ∧ (59 : UInt8) ∉ own := by
  induction t with
  | nil => left; simp
  | cons c t ih =>
    by_cases hc : c = 59
    · right; exact ⟨[], t, by rw [hc]; rfl, by simp⟩
    · rcases ih with h | ⟨own, rest, rfl, h⟩
      · left; simp [Ne.symm hc, h]
      · right; exact ⟨c :: own, rest, rfl, by simp [Ne.symm hc, h]⟩

/-- What a reference's own bytes may be: none of them is above 127; and what they stand for may be. -/
theorem ownB_ok {own : List UInt8} {r : Int} (h : ownB own = some r) : okRune r ∧ r ≠ 0 ∧ r ≠ 13 := by
  unfold ownB at h
  have hn : ∀ b m ds, numR b m ds = some r → okRune r ∧ r ≠ 0 ∧ r ≠ 13 := by
    intro b m ds h
    unfold numR at h
    split at h
    · rename_i hc
      cases h
      exact chr_ok _ (val_bd b ds (List.all_eq_true.1 hc.2.2)).1
    · cases h
  split at h
  · exact hn _ _ _ h
  split at h
  · exact hn _ _ _ h
  · obtain ⟨n, h1, rfl⟩ := Option.map_eq_some_iff.1 h
    have := (tbl_facts _ (nm_mem h1)).2.2.2.2
    refine ⟨this.1, ?_, ?_⟩
    · intro e; exact this.2.1 (by simpa using Int.ofNat_eq_zero.1 e)
    · intro e; exact this.2.2 (Int.ofNat.inj e)
theorem one_some {l : List UInt8} {r : Int} {n : Nat} (h : one l = some (r, n)) : ∃ own rest, l = 38 :: (own ++ 59 :: rest) ∧ n = own.length + 2 ∧ ownB own = some r := by
  cases l with
  | nil => rw [one_not _ (by simp)] at h; cases h
  | cons c t =>
    by_cases hc : c = 38
    · subst hc
      rcases semi_cases t with h1 | ⟨own, rest, rfl, h1⟩
      · rw [one_none t h1] at h; cases h
      · rw [one_own own rest h1] at h
        obtain ⟨r', h2, h3⟩ := Option.map_eq_some_iff.1 h
        cases h3
        exact ⟨own, rest, rfl, rfl, h2⟩
    · rw [one_not _ (by simpa using hc)] at h; cases h
theorem one_bd {l : List UInt8} {r : Int} {n : Nat} (h : one l = some (r, n)) : 2 ≤ n ∧ n ≤ l.length ∧ okRune r ∧ r ≠ 0 ∧ r ≠ 13 := by
  obtain ⟨own, rest, rfl, rfl, h2⟩ := one_some h
  have := ownB_ok h2
  exact ⟨by omega, by simp only [List.length_cons, List.length_append]; omega, this⟩
/-- What One answers. -/
def oneR (l : List UInt8) : Int := ((one l).map (·.1)).getD 0
def oneN (l : List UInt8) : Nat := ((one l).map (·.2)).getD 0
theorem oneR_bd (l : List UInt8) : 0 ≤ oneR l ∧ oneR l ≤ 1114111 := by
  unfold oneR
  cases h : one l with
  | none => simp
  | some p =>
    have := (one_bd (r := p.1) (n := p.2) (by rw [h])).2.2.1
    unfold okRune at this
    simp
    omega
theorem oneN_le (l : List UInt8) : oneN l ≤ l.length := by
  unfold oneN
  cases h : one l with
  | none => simp
  | some p => exact (one_bd (r := p.1) (n := p.2) (by rw [h])).2.1

/-! ### Decoded -/
def decode (l : List UInt8) : List UInt8 :=
  match l with
  | [] => []
  | c :: t => match one (c :: t) with
    | some (r, n) => enc r ++ decode (t.drop (n - 1))
    | none => c :: decode t
termination_by l.length
decreasing_by all_goals simp <;> omega
theorem decode_nil : decode [] = [] := by rw [decode]
theorem decode_ref {l : List UInt8} {r : Int} {n : Nat} (h : one l = some (r, n)) : decode l = enc r ++ decode (l.drop n) := by
  obtain ⟨own, rest, rfl, rfl, h2⟩ := one_some h
  rw [decode, h]
  simp
theorem decode_byte {c : UInt8} {t : List UInt8} (h : one (c :: t) = none) : decode (c :: t) = c :: decode t := by
  rw [decode, h]
theorem decode_plain {c : UInt8} (t : List UInt8) (h : c ≠ 38) : decode (c :: t) = c :: decode t := decode_byte (one_not _ (by simpa using h))
theorem decode_past (a t : List UInt8) (h : (38 : UInt8) ∉ a) : decode (a ++ t) = a ++ decode t := by
  induction a with
  | nil => rfl
  | cons c a ih =>
    rw [List.cons_append, decode_plain _ (fun e => h (by simp [e])), ih (fun e => h (by simp [e]))]
    rfl
theorem decode_self (l : List UInt8) (h : (38 : UInt8) ∉ l) : decode l = l := by
  have := decode_past l [] h
  rwa [List.append_nil, decode_nil, List.append_nil] at this
theorem enc_len_le (r : Int) : (enc r).length ≤ 4 ∧ 1 ≤ (enc r).length := by
  have := Lib.encodeRuneZ_length r
  have e : (enc r).length = (Lib.encodeRuneZ r).length := by simp [enc, Lib.encodeRune]
  omega
theorem decode_len : ∀ (n : Nat) (l : List UInt8), l.length ≤ n → (decode l).length ≤ 4 * l.length := by
  intro n
  induction n with
  | zero => intro l hl; have : l = [] := List.eq_nil_of_length_eq_zero (by omega); subst this; rw [decode_nil]; simp
  | succ n ih =>
    intro l hl
    cases l with
    | nil => rw [decode_nil]; simp
    | cons c t =>
      cases h : one (c :: t) with
      | none =>
        have := ih t (by simp at hl; omega)
        rw [decode_byte h]
        simp; omega
      | some p =>
        have hb := one_bd (r := p.1) (n := p.2) h
        have := ih ((c :: t).drop p.2) (by rw [List.length_drop]; omega)
        have he := enc_len_le p.1
        rw [decode_ref (r := p.1) (n := p.2) h, List.length_append]
        rw [List.length_drop] at this
        omega

/-! ### Written -/
def esc (v : Bool) (c : UInt8) : List UInt8 := if c = 38 then [38, 97, 109, 112, 59] else if c = 60 then [38, 108, 116, 59] else if c = 62 then [38, 103, 116, 59] else if c = 34 ∧ v = true then [38, 113, 117, 111, 116, 59] else [c]
def escape (v : Bool) (l : List UInt8) : List UInt8 := l.flatMap (esc v)
theorem escape_append (v : Bool) (a b : List UInt8) : escape v (a ++ b) = escape v a ++ escape v b := by simp [escape]
theorem escape_cons (v : Bool) (c : UInt8) (t : List UInt8) : escape v (c :: t) = esc v c ++ escape v t := by simp [escape]
theorem esc_len (v : Bool) (c : UInt8) : (esc v c).length ≤ 6 := by
  unfold esc
  repeat' split
  all_goals simp
theorem escape_len (v : Bool) (l : List UInt8) : (escape v l).length ≤ 6 * l.length := by
  induction l with
  | nil => simp [escape]
  | cons c t ih =>
    have := esc_len v c
    rw [escape_cons, List.length_append, List.length_cons]
    omega
theorem decode_name (own t : List UInt8) (n : Nat) (c : UInt8) (h59 : (59 : UInt8) ∉ own) (h : ownB own = some (n : Int)) (he : enc n = [c]) : decode (38 :: (own ++ 59 :: t)) = c :: decode t := by
  have h1 := one_own own t h59
  rw [h] at h1
  rw [decode_ref h1, he]
  simp
theorem decode_esc (v : Bool) (c : UInt8) (t : List UInt8) : decode (esc v c ++ t) = c :: decode t := by
  unfold esc
  split
  · rename_i e; subst e
    exact decode_name [97, 109, 112] t 38 38 (by decide) (by decide) (by decide)
  split
  · rename_i e; subst e
    exact decode_name [108, 116] t 60 60 (by decide) (by decide) (by decide)
  split
  · rename_i e; subst e
    exact decode_name [103, 116] t 62 62 (by decide) (by decide) (by decide)
  split
  · rename_i e; obtain ⟨rfl, _⟩ := e
    exact decode_name [113, 117, 111, 116] t 34 34 (by decide) (by decide) (by decide)
  · rename_i h _ _ _
    exact decode_plain t h
theorem decode_escape_past (v : Bool) (l t : List UInt8) : decode (escape v l ++ t) = l ++ decode t := by
  induction l with
  | nil => rfl
  | cons c l ih => rw [escape_cons, List.append_assoc, decode_esc, ih]; rfl
theorem decode_escape (v : Bool) (l : List UInt8) : decode (escape v l) = l := by
  have := decode_escape_past v l []
  rwa [List.append_nil, decode_nil, List.append_nil] at this
theorem esc_bare (c : UInt8) : ∀ x ∈ esc true c, x ≠ 60 ∧ x ≠ 62 ∧ x ≠ 34 := by
  unfold esc
  split
  · decide
  split
  · decide
  split
  · decide
  split
  · decide
  · rename_i h1 h2 h3 h4
    intro x hx
    simp at hx
    subst hx
    exact ⟨h2, h3, fun e => h4 ⟨e, rfl⟩⟩
theorem escape_bare (l : List UInt8) : ∀ x ∈ escape true l, x ≠ 60 ∧ x ≠ 62 ∧ x ≠ 34 := by
  intro x hx
  obtain ⟨c, _, h⟩ := List.mem_flatMap.1 hx
  exact esc_bare c x h

/-! ### Right texts -/
def okT (rs : List Int) : Prop := ∀ r ∈ rs, okRune r ∧ r ≠ 0 ∧ r ≠ 13
theorem right_iff (l : List UInt8) : isB l = true ↔ ∃ rs, okT rs ∧ l = text rs := by
  constructor
  · intro h
    exact ⟨_, right_ok l, ((isB_right_iff l).1 h).symm⟩
  · rintro ⟨rs, h, rfl⟩
    rw [isB_right_iff]
    have h1 := runes_text rs (fun r hr => (h r hr).1) []
    rw [List.append_nil, runes_nil, List.append_nil] at h1
    unfold right
    rw [h1, mk_fix _ (fun r hr => (h r hr).2)]
theorem enc_high (r : Int) (h : okRune r) (h1 : 128 ≤ r) : ∀ x ∈ enc r, 128 ≤ x.toNat := by
  obtain ⟨n, rfl⟩ : ∃ n : Nat, r = n := ⟨r.toNat, by omega⟩
  have hn : (128 ≤ n ∧ n ≤ 2047) ∨ ((2048 ≤ n ∧ n < 55296) ∨ (57343 < n ∧ n ≤ 65535)) ∨ (65536 ≤ n ∧ n ≤ 1114111) := by unfold okRune at h; omega
  intro x hx
  rcases hn with ⟨h1, h2⟩ | h1 | ⟨h1, h2⟩
  · rw [enc2 n h1 h2] at hx
    simp only [List.mem_cons, List.not_mem_nil, or_false] at hx
    rcases hx with rfl | rfl <;> (rw [toNat_u8 _ (by omega)]; omega)
  · rw [enc3 n h1] at hx
    simp only [List.mem_cons, List.not_mem_nil, or_false] at hx
    rcases hx with rfl | rfl | rfl <;> (rw [toNat_u8 _ (by omega)]; omega)
  · rw [enc4 n h1 h2] at hx
    simp only [List.mem_cons, List.not_mem_nil, or_false] at hx
    rcases hx with rfl | rfl | rfl | rfl <;> (rw [toNat_u8 _ (by omega)]; omega)
theorem enc_low (r : Int) (h : 0 ≤ r) (h1 : r < 128) : enc r = [r.toNat.toUInt8] := by
  obtain ⟨n, rfl⟩ : ∃ n : Nat, r = n := ⟨r.toNat, by omega⟩
  exact enc1 n (by omega)
/-- Behind a byte below 128 a text of characters goes on as one. -/
theorem text_cut : ∀ (rs : List Int) (p : List UInt8) (c : UInt8) (rest : List UInt8), okT rs → text rs = p ++ c :: rest → c.toNat < 128 → ∃ rs2, okT rs2 ∧ rest = text rs2
  | [], p, c, rest, _, h, _ => by simp [text] at h
  | r :: rs, p, c, rest, ho, h, hc => by
    have hor := ho r (by simp)
    have ho' : okT rs := fun x hx => ho x (by simp [hx])
    rw [text_cons] at h
    rcases Nat.lt_or_ge p.length (enc r).length with hl | hl
    · by_cases hr : 128 ≤ r
      · exfalso
        have h1 : (enc r)[p.length]? = some c := by
          have := congrArg (fun l => l[p.length]?) h
          simp only [List.getElem?_append_left hl] at this
          rw [this]
          simp
        have := enc_high r hor.1 hr c (List.mem_of_getElem? h1)
        omega
      · have h00 : 0 ≤ r := by
          have := hor.1
          unfold okRune at this
          omega
        have e := enc_low r h00 (by omega)
        rw [e] at h hl
        have hl1 : p.length < 1 := hl
        have hp : p = [] := List.eq_nil_of_length_eq_zero (by omega)
        subst hp
        simp at h
        exact ⟨rs, ho', h.2.symm⟩
    · have h1 : p = enc r ++ p.drop (enc r).length := by
        have := congrArg (List.take (enc r).length) h
        rw [List.take_left, List.take_append_of_le_length hl] at this
        conv => lhs; rw [← List.take_append_drop (enc r).length p]
        rw [← this]
      rw [h1, List.append_assoc] at h
      exact text_cut rs _ c rest ho' (List.append_cancel_left h) hc
theorem decode_right : ∀ (n : Nat) (rs : List Int), (text rs).length ≤ n → okT rs → ∃ rs', okT rs' ∧ decode (text rs) = text rs' := by
  intro n
  induction n with
  | zero =>
    intro rs hn ho
    have := text_len rs
    have h : rs = [] := List.eq_nil_of_length_eq_zero (by omega)
    subst h
    exact ⟨[], ho, by rw [show text [] = [] from rfl, decode_nil]⟩
  | succ n ih =>
    intro rs hn ho
    match rs, ho with
    | [], ho => exact ⟨[], ho, by rw [show text [] = [] from rfl, decode_nil]⟩
    | r :: rs, ho =>
      have hor := ho r (by simp)
      have ho' : okT rs := fun x hx => ho x (by simp [hx])
      have hel := enc_len_le r
      rw [text_cons] at hn ⊢
      rw [List.length_append] at hn
      have plain : (38 : UInt8) ∉ enc r → ∃ rs', okT rs' ∧ decode (enc r ++ text rs) = text rs' := by
        intro h
        obtain ⟨rs', h1, h2⟩ := ih rs (by omega) ho'
        refine ⟨r :: rs', ?_, ?_⟩
        · intro x hx
          rcases List.mem_cons.1 hx with rfl | hx
          · exact hor
          · exact h1 x hx
        · rw [decode_past _ _ h, h2, text_cons]
      by_cases hr : 128 ≤ r
      · exact plain (fun hm => by have h1 := enc_high r hor.1 hr _ hm; exact absurd h1 (by decide))
      have h00 : 0 ≤ r := by
        have := hor.1
        unfold okRune at this
        omega
      have e := enc_low r h00 (by omega)
      by_cases h38 : r = 38
      · subst h38
        have e : enc 38 = [38] := by decide
        rw [e] at hn ⊢
        cases h : one ([38] ++ text rs) with
        | none =>
          obtain ⟨rs', h1, h2⟩ := ih rs (by simp at hn; omega) ho'
          refine ⟨38 :: rs', ?_, ?_⟩
          · intro x hx
            rcases List.mem_cons.1 hx with rfl | hx
            · decide
            · exact h1 x hx
          · rw [show ([38] : List UInt8) ++ text rs = 38 :: text rs from rfl] at h ⊢
            rw [decode_byte h, h2, text_cons, e]
            rfl
        | some p =>
          obtain ⟨q, k⟩ := p
          obtain ⟨own, rest, h1, h2, h3⟩ := one_some h
          have hq := ownB_ok h3
          rw [decode_ref h, h1]
          have hd : (38 :: (own ++ 59 :: rest)).drop k = rest := by rw [h2]; simp
          rw [hd]
          have h4 : text rs = own ++ 59 :: rest := by simpa using h1
          obtain ⟨rs2, h5, h6⟩ := text_cut rs own 59 rest ho' h4 (by decide)
          obtain ⟨rs', h7, h8⟩ := ih rs2 (by rw [← h6]; rw [h4] at hn; simp at hn; omega) h5
          refine ⟨q :: rs', ?_, ?_⟩
          · intro x hx
            rcases List.mem_cons.1 hx with rfl | hx
            · exact hq
            · exact h7 x hx
          · rw [h6, h8, text_cons]
      · refine plain ?_
        rw [e]
        intro hm
        simp only [List.mem_singleton] at hm
        have h1 := congrArg UInt8.toNat hm
        rw [toNat_u8 _ (by omega)] at h1
        have : (38 : UInt8).toNat = 38 := rfl
        have h0 : 0 ≤ r := by have := hor.1; unfold okRune at this; omega
        omega
theorem isB_decode (l : List UInt8) (h : isB l = true) : isB (decode l) = true := by
  obtain ⟨rs, ho, rfl⟩ := (right_iff l).1 h
  obtain ⟨rs', h1, h2⟩ := decode_right _ rs (Nat.le_refl _) ho
  rw [h2]
  exact (right_iff _).2 ⟨rs', h1, rfl⟩
/-- A text below 128 is its bytes' text. -/
theorem low_text (l : List UInt8) (h : ∀ c ∈ l, c.toNat < 128 ∧ c ≠ 0 ∧ c ≠ 13) : ∃ rs, okT rs ∧ l = text rs := by
  induction l with
  | nil => exact ⟨[], by simp [okT], rfl⟩
  | cons c l ih =>
    obtain ⟨rs, h1, h2⟩ := ih (fun x hx => h x (by simp [hx]))
    have hc := h c (by simp)
    refine ⟨(c.toNat : Int) :: rs, ?_, ?_⟩
    · intro x hx
      rcases List.mem_cons.1 hx with rfl | hx
      · refine ⟨by unfold okRune; omega, ?_, ?_⟩
        · intro e
          exact hc.2.1 (UInt8.toNat_inj.1 (by simpa using (by omega : c.toNat = 0)))
        · intro e
          exact hc.2.2 (UInt8.toNat_inj.1 (by simpa using (by omega : c.toNat = 13)))
      · exact h1 x hx
    · rw [text_cons, enc1 _ (by omega), u8_of_toNat c _ rfl, ← h2]
      rfl
theorem escape_right : ∀ (rs : List Int), okT rs → ∃ rs', okT rs' ∧ escape true (text rs) = text rs'
  | [], ho => ⟨[], ho, rfl⟩
  | r :: rs, ho => by
    have hor := ho r (by simp)
    obtain ⟨rs', h1, h2⟩ := escape_right rs (fun x hx => ho x (by simp [hx]))
    have key : ∃ q, okT q ∧ escape true (enc r) = text q := by
      by_cases hr : 128 ≤ r
      · have hh := enc_high r hor.1 hr
        have hsame : ∀ l : List UInt8, (∀ x ∈ l, 128 ≤ x.toNat) → escape true l = l := by
          intro l
          induction l with
          | nil => intro _; rfl
          | cons c l ih =>
            intro h
            have hc := h c (by simp)
            have n1 : ¬ c = 38 := fun e => by subst e; exact absurd hc (by decide)
            have n2 : ¬ c = 60 := fun e => by subst e; exact absurd hc (by decide)
            have n3 : ¬ c = 62 := fun e => by subst e; exact absurd hc (by decide)
            have n4 : ¬ c = 34 := fun e => by subst e; exact absurd hc (by decide)
            rw [escape_cons, ih (fun x hx => h x (by simp [hx])), esc, if_neg n1, if_neg n2, if_neg n3, if_neg (fun e => n4 e.1)]
            rfl
        refine ⟨[r], ?_, ?_⟩
        · intro x hx
          simp at hx
          subst hx
          exact hor
        · rw [hsame _ hh]
          simp [text]
      · have h0 : 0 ≤ r := by have := hor.1; unfold okRune at this; omega
        have e := enc_low r h0 (by omega)
        rw [e]
        refine low_text _ ?_
        intro x hx
        rw [escape_cons] at hx
        simp only [escape, List.flatMap_nil, List.append_nil] at hx
        unfold esc at hx
        split at hx
        · revert x; decide
        split at hx
        · revert x; decide
        split at hx
        · revert x; decide
        split at hx
        · revert x; decide
        · simp only [List.mem_singleton] at hx
          subst hx
          have t := toNat_u8 r.toNat (by omega)
          refine ⟨by omega, ?_, ?_⟩
          · intro e2
            have := congrArg UInt8.toNat e2
            rw [t] at this
            have e3 : (0 : UInt8).toNat = 0 := rfl
            exact hor.2.1 (by omega)
          · intro e2
            have := congrArg UInt8.toNat e2
            rw [t] at this
            have e3 : (13 : UInt8).toNat = 13 := rfl
            exact hor.2.2 (by omega)
    obtain ⟨q, h3, h4⟩ := key
    refine ⟨q ++ rs', ?_, ?_⟩
    · intro x hx
      rcases List.mem_append.1 hx with hx | hx
      · exact h3 x hx
      · exact h1 x hx
    · rw [text_cons, escape_append, h4, h2, text_append]
theorem isB_escape (l : List UInt8) (h : isB l = true) : isB (escape true l) = true := by
  obtain ⟨rs, ho, rfl⟩ := (right_iff l).1 h
  obtain ⟨rs', h1, h2⟩ := escape_right rs ho
  rw [h2]
  exact (right_iff _).2 ⟨rs', h1, rfl⟩
end M2
end Go.Proofs.Ytlknmnldblodbaa
