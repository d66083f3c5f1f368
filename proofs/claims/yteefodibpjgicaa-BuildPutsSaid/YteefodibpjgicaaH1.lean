/- Texts joined: Kit, Math1, Kit2, Math3, Mem, Bld0, Math3m, Math2. -/
import Derived.WalkKit
import Derived.WalkSpells
import Derived.WalkLawsBesides
import Derived.Lib.ConvBytes
import Derived.Lib.UnsafeStr
import Derived.Lib.OthersKept
import Derived.Lib.Hide
import Derived.Lib.Strings
import Derived.WalkSmall
import Derived.Laws.AppendOwnNone
import Derived.Lib.RuneBytes
import GoSem.Core.Utf8
import Derived.Test.YteefodibpjgicaaRows
import Derived.Laws.AppendOwn
import Derived.Lib.FrozenHead
import Derived.Shelf.RegionOpenPlain
import Derived.Lib.Builder
import Derived.Lib.Bytealg
import Derived.Lib.IndexLaws
/- Small words for slices that a call reads or makes, one cell an element; and what a conversion of a text leaves. -/
namespace Go.Proofs.Yteefodibpjgicaa
open Go.RowKit

theorem ne_of_lt {α : Type} {xs : List α} {k : Nat} (h : k < xs.length) : xs ≠ [] := fun e => by subst e; simp at h
/-- The slice v reads in w as xs (one cell an element). -/
def Sl (w : World) (v : Value) (xs : List Value) : Prop :=
  ∃ (a : Option Addr) (cap : Nat), v = .slice a xs.length cap ∧ xs.length ≤ cap ∧ cap ≤ 9223372036854775807 ∧ (a = none → cap = 0) ∧
    (xs ≠ [] → ∃ b off, a = some ⟨b, off, none⟩ ∧ ∀ j (h : j < xs.length), w.cell? ⟨b, off + j, none⟩ = some xs[j])

abbrev u8s (l : List UInt8) : List Value := Lib.byteCells l
theorem u8s_append (a b : List UInt8) : u8s (a ++ b) = u8s a ++ u8s b := Lib.byteCells_append a b
@[simp] theorem u8s_length (a : List UInt8) : (u8s a).length = a.length := Lib.byteCells_length a
theorem u8s_get (a : List UInt8) (k : Nat) (c : UInt8) (h : a[k]? = some c) : (u8s a)[k]? = some (.int .u8 (c.toNat : Int)) := by simp [u8s, Lib.byteCells, h]
theorem u8s_set (a : List UInt8) (k : Nat) (c : UInt8) : (u8s a).set k (.int .u8 (c.toNat : Int)) = u8s (a.set k c) := by simp [u8s, Lib.byteCells, List.map_set]
def i32s (l : List Int) : List Value := l.map (Value.int .i32)
@[simp] theorem i32s_length (l : List Int) : (i32s l).length = l.length := by simp [i32s]
theorem i32s_append (a b : List Int) : i32s (a ++ b) = i32s a ++ i32s b := by simp [i32s]

theorem Sl.below {w w' : World} {v : Value} {xs : List Value} (h : Sl w v xs) (hb : Below w.heap.size w w') : Sl w' v xs := by
  obtain ⟨a, cap, h1, h2, h3, h4, h5⟩ := h
  refine ⟨a, cap, h1, h2, h3, h4, fun hne => ?_⟩
  obtain ⟨b, off, h6, h7⟩ := h5 hne
  refine ⟨b, off, h6, fun j hj => ?_⟩
  have h8 := h7 j hj
  rw [hb.cell (World.block_lt_of_cell? w _ h8)]
  exact h8

theorem Sl.nil (w : World) : Sl w (.slice none 0 0) [] := ⟨none, 0, rfl, Nat.le_refl _, by omega, fun _ => rfl, fun h => absurd rfl h⟩

theorem Sl.own {w : World} {B : Nat} {e : TypeId} {v : Value} {n : Nat} {xs : List Value} (h : w.ownsRow B e 1 v n xs) : Sl w v xs := by
  have hn : xs.length = n := by have := h.1; omega
  have hc := fun g hg => h.cells (g := g) hg
  rcases h.2 with ⟨rfl, h0⟩ | ⟨g, cap, cur, rfl, _, hg, h1, h2, h3, h4⟩
  · have : xs = [] := List.eq_nil_of_length_eq_zero (by omega)
    subst this
    exact Sl.nil w
  · unfold maxLen at h2
    refine ⟨some ⟨g, 0, none⟩, cap, by rw [hn], by omega, by omega, (fun h => by cases h), fun _ => ⟨g, 0, rfl, fun j hj => ?_⟩⟩
    have h5 := hc g rfl j xs[j] (List.getElem?_eq_getElem hj)
    have hplain : (⟨g, 0, none⟩ : Addr).add j = ⟨g, 0 + j, none⟩ := by unfold Addr.add; split <;> simp_all
    rwa [hplain] at h5

/-- Behind '[]byte(s)'. -/
theorem Sl.bytes (w : World) (e : TypeId) (s : ByteArray) (hs : s.size ≤ 9223372036854775807) :
    Sl (Lib.bytesWorld w e s) (.slice (some ⟨w.heap.size, 0, none⟩) s.size (grownCap w s.size 0 e)) (u8s s.data.toList) := by
  have hl : (u8s s.data.toList).length = s.size := by rw [u8s, Lib.byteCells_length]; rfl
  have h1 := grownCap_ge w s.size 0 e
  have h2 := grownCap_le_maxLen w s.size 0 e (by unfold maxLen; omega)
  unfold maxLen at h2
  refine ⟨_, _, by rw [hl], by omega, by omega, (fun h => by cases h), fun _ => ⟨_, 0, rfl, fun j hj => ?_⟩⟩
  rw [Nat.zero_add, Lib.bytesWorld_cell w e s j (by omega)]
  have hj' : j < s.data.toList.length := by rw [hl] at hj; exact hj
  simp [u8s, Lib.byteCells, List.getD_eq_getElem?_getD, List.getElem?_eq_getElem hj']

theorem below_bytesWorld (w : World) (e : TypeId) (s : ByteArray) : Below w.heap.size w (Lib.bytesWorld w e s) :=
  ⟨by simp [Lib.bytesWorld, World.freeze, World.alloc, World.drew, -World.alloc_eq, -World.drew_eq], by simp [Lib.bytesWorld, World.freeze, World.alloc, World.drew, -World.alloc_eq, -World.drew_eq],
    by simp [Lib.bytesWorld, World.freeze, World.alloc, World.drew, -World.alloc_eq, -World.drew_eq], by rw [Lib.bytesWorld_size]; omega, fun k hk => Lib.bytesWorld_at_old w e s k hk⟩

/-- 'string(b)'. -/
theorem Sl.toString {P : Program} {w : World} {v : Value} {l : List UInt8} (h : Sl w v (u8s l)) (src dst e : TypeId) (hs : P.underlying src = some (.slice e)) (he : P.underlying e = some (.int .u8)) (hd : P.underlying dst = some .string) :
    (convert src dst v).run P w = .ok (.string ⟨l.toArray⟩) w := by
  obtain ⟨a, cap, rfl, h2, h3, h4, h5⟩ := h
  have hl : (u8s l).length = l.length := Lib.byteCells_length l
  cases a with
  | none =>
    have : l = [] := List.eq_nil_of_length_eq_zero (by have := h4 rfl; omega)
    subst this
    rw [run_convert_bytes_nil w src e hs he _ _ dst hd]
    rfl
  | some a =>
    rw [hl]
    refine run_convert_bytes_back w src dst e a cap l hs he hd fun j hj => ?_
    obtain ⟨b, off, h6, h7⟩ := h5 (fun h0 => by rw [h0] at hl; simp at hl; omega)
    cases h6
    have hplain : (⟨b, off, none⟩ : Addr).add j = ⟨b, off + j, none⟩ := by unfold Addr.add; split <;> simp_all
    rw [hplain, h7 j (by omega)]
    simp [u8s, Lib.byteCells]

/-- 'grownBy' from before a new block on. -/
theorem grownBy_of_alloc {w w2 : World} {o : Obj} {row : Option Nat} (h : (w.alloc o).grownBy w2 row) : w.grownBy w2 row :=
  ⟨h.os, h.tape, h.output, Nat.le_trans (by simp) h.size, fun k hk hne => by rw [h.block k (by simp; omega) hne]; exact Lib.alloc_old w o k hk⟩

/-- 'append(s, x)' of one element of one cell onto a row that the call owns. -/
theorem wpList_app1 {P : Program} {ops : Array Oper} {rest : List Oper} {o : Oper} {a : Act} {Q : Exit → Act → World → Prop} (w1 : World) (x : Value) (hgd : o.guard = none) (s y : Operand) (t e : TypeId)
    (ho : o.op = .call { callee := .builtin .append, args := #[s, y], argTypes := #[t, t] }) (base : Nat) {z : Value} {bytes : Nat} (ht : P.underlying t = some (.slice e))
    (hinfo : (P.info? e).map (fun i => (i.zero, i.size, i.bytes)) = some (some z, 1, bytes)) (hz : z.cells.size = 1)
    (v : Value) (n : Nat) (xs : List Value) (hs : a.eval s = v) (hown : w1.ownsRow base e 1 v n xs) (hx : a.eval y = .slice (some ⟨w1.heap.size, 0, none⟩) 1 1) (h1 : x.oneCell' = true)
    (h63 : n + 1 ≤ 9223372036854775807) (hbytes : (n + 1) * bytes ≤ 140737488355328) (hbase : base ≤ w1.heap.size)
    (h : ∀ v' w2, w2.ownsRow base e 1 v' (n + 1) (xs ++ [x]) → w1.grownBy w2 v.ownBlock → wpList P ops Q rest (a.put o.dst v') w2) : wpList P ops Q (o :: rest) a (w1.alloc (.cells #[x] e)) := by
  obtain ⟨i, hi, hz0, hz1, hz2⟩ := info_parts hinfo
  refine wpList_append_own _ hgd s y t ho base e i z 1 bytes ht hi hz0 hz1 hz2 hz (by decide) v n xs hs (hown.alloc _) ⟨w1.heap.size, 0, none⟩ 1 1 [x] hx rfl ?_ ?_ (by unfold maxLen; omega) hbytes (by simp; omega) ?_
  · intro j u hj
    match j, hj with
    | 0, hj => simp at hj; subst hj; simp [Addr.add]
  · intro u hu; simp at hu; subst hu; exact h1
  · intro v' w2 h2 h3 _
    exact h v' w2 h2 (grownBy_of_alloc h3)

/-- 'append(s, y...)' onto a row that the call owns; y reads as ys. -/
theorem wpList_appSl {P : Program} {ops : Array Oper} {rest : List Oper} {o : Oper} {a : Act} {Q : Exit → Act → World → Prop} (w1 : World) (hgd : o.guard = none) (s y : Operand) (t e : TypeId)
    (ho : o.op = .call { callee := .builtin .append, args := #[s, y], argTypes := #[t, t] }) (base : Nat) {z : Value} {bytes : Nat} (ht : P.underlying t = some (.slice e))
    (hinfo : (P.info? e).map (fun i => (i.zero, i.size, i.bytes)) = some (some z, 1, bytes)) (hz : z.cells.size = 1)
    (v : Value) (n : Nat) (xs : List Value) (hs : a.eval s = v) (hown : w1.ownsRow base e 1 v n xs) (yv : Value) (ys : List Value) (hy : a.eval y = yv) (hx : Sl w1 yv ys) (h1 : ∀ u ∈ ys, u.oneCell' = true)
    (h63 : n + ys.length ≤ 9223372036854775807) (hbytes : (n + ys.length) * bytes ≤ 140737488355328) (hbase : base ≤ w1.heap.size)
    (h : ∀ v' w2, w2.ownsRow base e 1 v' (n + ys.length) (xs ++ ys) → w1.grownBy w2 v.ownBlock → wpList P ops Q rest (a.put o.dst v') w2) : wpList P ops Q (o :: rest) a w1 := by
  obtain ⟨i, hi, hz0, hz1, hz2⟩ := info_parts hinfo
  obtain ⟨ad, cap, rfl, h2, h3, h4, h5⟩ := hx
  cases ad with
  | none =>
    have h6 := h4 rfl
    have h7 : ys = [] := List.eq_nil_of_length_eq_zero (by omega)
    subst h7
    subst h6
    refine wpList_append_own_none hgd s y t ho base e i 1 ht hi v n xs hs hown hy ?_
    have := h v w1 (by simpa using hown) ⟨rfl, rfl, rfl, Nat.le_refl _, fun _ _ _ => rfl⟩
    exact this
  | some ad =>
    refine wpList_append_own _ hgd s y t ho base e i z 1 bytes ht hi hz0 hz1 hz2 hz (by decide) v n xs hs hown ad ys.length cap ys hy (by omega) ?_ h1 (by unfold maxLen; omega) hbytes hbase ?_
    · intro j u hj
      obtain ⟨hj', e⟩ := List.getElem?_eq_some_iff.1 hj
      obtain ⟨b, off, h6, h7⟩ := h5 (ne_of_lt hj')
      cases h6
      have hplain : (⟨b, off, none⟩ : Addr).add j = ⟨b, off + j, none⟩ := by unfold Addr.add; split <;> simp_all
      rw [hplain, h7 j hj', e]
    · intro v' w2 h8 h9 _
      exact h v' w2 h8 h9

theorem owns_below {w w1 : World} {base : Nat} {e : TypeId} {v : Value} {n : Nat} {xs : List Value} (h : w.ownsRow base e 1 v n xs) (hb : Below w.heap.size w w1) : w1.ownsRow base e 1 v n xs :=
  h.kept (row := none) ⟨hb.os, hb.tape, hb.output, hb.size, fun k hk _ => hb.block k hk⟩ (by cases h : v.ownBlock <;> simp)
/-- 's[k:]' -/
theorem Sl.drop {w : World} {b off n cap : Nat} {xs : List Value} (h : Sl w (.slice (some ⟨b, off, none⟩) n cap) xs) (k : Nat) (hk : k ≤ n) : Sl w (.slice (some ⟨b, off + k, none⟩) (n - k) (cap - k)) (xs.drop k) := by
  obtain ⟨a, cap', h1, h2, h3, h4, h5⟩ := h
  cases h1
  refine ⟨some ⟨b, off + k, none⟩, cap - k, by rw [List.length_drop], by rw [List.length_drop]; omega, by omega, (fun h => by cases h), fun hne => ?_⟩
  have h6 : k < xs.length := by
    rcases Nat.lt_or_ge k xs.length with h6 | h6
    · exact h6
    · exact absurd (List.drop_of_length_le h6) hne
  obtain ⟨b', off', h7, h8⟩ := h5 (ne_of_lt h6)
  cases h7
  refine ⟨b, off + k, rfl, fun j hj => ?_⟩
  rw [List.length_drop] at hj
  rw [Nat.add_assoc, h8 (k + j) (by omega), List.getElem_drop]
/-- 's[:k]' -/
theorem Sl.take {w : World} {a : Option Addr} {n cap : Nat} {xs : List Value} (h : Sl w (.slice a n cap) xs) (k : Nat) (hk : k ≤ n) : Sl w (.slice a k cap) (xs.take k) := by
  obtain ⟨a', cap', h1, h2, h3, h4, h5⟩ := h
  cases h1
  refine ⟨a, cap, by rw [List.length_take, Nat.min_eq_left hk], by rw [List.length_take]; omega, h3, h4, fun hne => ?_⟩
  obtain ⟨b, off, h6, h7⟩ := h5 (fun e => hne (by rw [e]; simp))
  refine ⟨b, off, h6, fun j hj => ?_⟩
  rw [List.length_take] at hj
  rw [h7 j (by omega), List.getElem_take]

theorem below_row {B base : Nat} {e : TypeId} {n : Nat} {v : Value} {xs : List Value} {a w w' : World} (h : Below B a w) (hown : w.ownsRow base e 1 v n xs) (hg : w.grownBy w' v.ownBlock) (hB : B ≤ w.heap.size) (hb : B ≤ base) : Below B a w' :=
  h.grown hg hB (fun k hk => by have := (hown.lt k hk).1; omega)
theorem kept_row {base : Nat} {e : TypeId} {n k : Nat} {v : Value} {xs : List Value} {w w' : World} {o : Obj} (hown : w.ownsRow base e 1 v n xs) (hg : w.grownBy w' v.ownBlock) (hk : k < base) (ho : w.heap[k]? = some o) : w'.heap[k]? = some o := by
  rw [hg.block k (Array.getElem?_eq_some_iff.1 ho).1 (fun e => by have := (hown.lt _ e.symm).1; omega)]; exact ho
theorem extract_end (s : ByteArray) (a : Nat) : (s.extract a s.size).data.toList = s.data.toList.drop a := by
  rw [Lib.extract_data, List.take_of_length_le]
  rw [List.length_drop]
  exact Nat.le_refl _
theorem Sl.lt {w : World} {v : Value} {xs : List Value} {a : Option Addr} {n cap : Nat} (h : Sl w v xs) (hv : v = .slice a n cap) : n = xs.length := by
  obtain ⟨_, _, h1, _⟩ := h
  rw [hv] at h1; cases h1; rfl

/-- A row in block b whose first cells read as xs and may be written. -/
def MutRow (w : World) (b : Nat) (xs : List Value) : Prop := ∀ j (h : j < xs.length), w.cell? ⟨b, j, none⟩ = some xs[j] ∧ w.frozen? ⟨b, j, none⟩ = false
theorem MutRow.at {w : World} {b : Nat} {xs : List Value} (h : MutRow w b xs) {k : Nat} {x : Value} (hx : xs[k]? = some x) : w.cell? ⟨b, k, none⟩ = some x ∧ w.frozen? ⟨b, k, none⟩ = false := by
  obtain ⟨hk, e⟩ := List.getElem?_eq_some_iff.1 hx
  have := h k hk
  rwa [e] at this
theorem MutRow.set {w : World} {b : Nat} {xs : List Value} (h : MutRow w b xs) {k : Nat} (hk : k < xs.length) (v : Value) : MutRow (w.setCell ⟨b, k, none⟩ v) b (xs.set k v) := by
  intro j hj
  rw [List.length_set] at hj
  refine ⟨?_, (World.frozen?_setCell _ _ _ _).trans (h j hj).2⟩
  by_cases e : k = j
  · subst e
    rw [World.cell?_setCell_same _ _ _ (h k hk).1]
    simp
  · rw [World.cell?_setCell_other _ _ _ _ (by simp), (h j hj).1, List.getElem_set_ne e]
theorem MutRow.sl {w : World} {b cap : Nat} {xs : List Value} (h : MutRow w b xs) (h1 : xs.length ≤ cap) (h2 : cap ≤ 9223372036854775807) : Sl w (.slice (some ⟨b, 0, none⟩) xs.length cap) xs :=
  ⟨_, _, rfl, h1, h2, (fun h => by cases h), fun _ => ⟨b, 0, rfl, fun j hj => by rw [Nat.zero_add]; exact (h j hj).1⟩⟩
theorem MutRow.bytes (w : World) (e : TypeId) (s : ByteArray) : MutRow (Lib.bytesWorld w e s) w.heap.size (u8s s.data.toList) := by
  intro j hj
  have hl : (u8s s.data.toList).length = s.size := by rw [u8s_length]; rfl
  have h1 := grownCap_ge w s.size 0 e
  refine ⟨?_, ?_⟩
  · rw [Lib.bytesWorld_cell w e s j (by omega)]
    have hj' : j < s.data.toList.length := by rw [hl] at hj; exact hj
    simp [u8s, Lib.byteCells, List.getD_eq_getElem?_getD, List.getElem?_eq_getElem hj']
  · unfold World.frozen?
    rw [Lib.bytesWorld_at_new]
    have : s.size ≤ (Lib.bytesCells w e s).size := by
      unfold Lib.bytesCells
      rw [Array.size_append, Array.size_map]
      exact Nat.le_add_right _ _
    simp
    omega

theorem i32_bounds {r : Int} (h : (Lit.int .i32 r).wf = true) : -2147483648 ≤ r ∧ r ≤ 2147483647 := by
  have h2 : IntKind.i32.min = -2147483648 := rfl
  have h3 : IntKind.i32.max = 2147483647 := rfl
  simp only [Lit.wf, Bool.and_eq_true, decide_eq_true_eq, h2, h3] at h
  exact h
theorem i64_bounds {r : Int} (h : (Lit.int .i64 r).wf = true) : -9223372036854775808 ≤ r ∧ r ≤ 9223372036854775807 := by
  have h2 : IntKind.i64.min = -9223372036854775808 := rfl
  have h3 : IntKind.i64.max = 9223372036854775807 := rfl
  simp only [Lit.wf, Bool.and_eq_true, decide_eq_true_eq, h2, h3] at h
  exact h
end Go.Proofs.Yteefodibpjgicaa

/- Plain facts on UTF-8's forms: bytes as characters, characters as bytes, bytes made right. No program in it. -/
namespace Go.Proofs.Yteefodibpjgicaa
namespace M1

def cont (l : List UInt8) (k : Nat) : Bool := decide (k < l.length) && (l.getD k 0).toNat / 64 == 2

/-- The character that bytes begin with, and its width. -/
def dec (l : List UInt8) : Nat × Nat :=
  if (l.getD 0 0).toNat < 0x80 then ((l.getD 0 0).toNat, 1)
  else if (l.getD 0 0).toNat / 32 == 6 && cont l 1 then
    if ((l.getD 0 0).toNat % 32) * 64 + (l.getD 1 0).toNat % 64 ≥ 0x80 then (((l.getD 0 0).toNat % 32) * 64 + (l.getD 1 0).toNat % 64, 2) else (65533, 1)
  else if (l.getD 0 0).toNat / 16 == 14 && cont l 1 && cont l 2 then
    if ((l.getD 0 0).toNat % 16) * 4096 + ((l.getD 1 0).toNat % 64) * 64 + (l.getD 2 0).toNat % 64 ≥ 0x800 && Utf8.valid (((l.getD 0 0).toNat % 16) * 4096 + ((l.getD 1 0).toNat % 64) * 64 + (l.getD 2 0).toNat % 64 : Nat) then
      (((l.getD 0 0).toNat % 16) * 4096 + ((l.getD 1 0).toNat % 64) * 64 + (l.getD 2 0).toNat % 64, 3) else (65533, 1)
  else if (l.getD 0 0).toNat / 8 == 30 && cont l 1 && cont l 2 && cont l 3 then
    if ((l.getD 0 0).toNat % 8) * 262144 + ((l.getD 1 0).toNat % 64) * 4096 + ((l.getD 2 0).toNat % 64) * 64 + (l.getD 3 0).toNat % 64 ≥ 0x10000 && Utf8.valid (((l.getD 0 0).toNat % 8) * 262144 + ((l.getD 1 0).toNat % 64) * 4096 + ((l.getD 2 0).toNat % 64) * 64 + (l.getD 3 0).toNat % 64 : Nat) then
      (((l.getD 0 0).toNat % 8) * 262144 + ((l.getD 1 0).toNat % 64) * 4096 + ((l.getD 2 0).toNat % 64) * 64 + (l.getD 3 0).toNat % 64, 4) else (65533, 1)
  else (65533, 1)

theorem get!_drop (s : ByteArray) (i k : Nat) : s.get! (i + k) = (s.data.toList.drop i).getD k 0 := by
  show s.data[i + k]! = _
  rw [Array.getElem!_eq_getD, Array.getD_eq_getD_getElem?, List.getD_eq_getElem?_getD, List.getElem?_drop, Array.getElem?_toList]
  rfl

theorem cont_drop (s : ByteArray) (i k : Nat) : cont (s.data.toList.drop i) k = (decide (i + k < s.size) && (s.get! (i + k)).toNat / 64 == 2) := by
  unfold cont
  rw [get!_drop]
  congr 1
  have : s.size = s.data.toList.length := rfl
  rw [List.length_drop, this]
  apply decide_eq_decide.2
  omega

/-- The model's own decoding, on lists. -/
theorem decode_eq (s : ByteArray) (i : Nat) : Utf8.decode s i = dec (s.data.toList.drop i) := by
  have e := fun k => get!_drop s i k
  have c := fun k => cont_drop s i k
  simp only [Utf8.decode, dec, ← e, c, Utf8.runeError]

/-! ### The forms, written out -/
abbrev enc (r : Int) : List UInt8 := Lib.encodeRune r
def okRune (r : Int) : Prop := (0 ≤ r ∧ r < 55296) ∨ (57343 < r ∧ r ≤ 1114111)
instance (r : Int) : Decidable (okRune r) := by unfold okRune; infer_instance

theorem toNat_u8 (n : Nat) (h : n < 256) : (n.toUInt8).toNat = n := by
  simp [Nat.mod_eq_of_lt h]

theorem enc1 (n : Nat) (h : n ≤ 127) : enc n = [n.toUInt8] := by
  simp only [enc, Lib.encodeRune, Lib.encodeRuneZ_one (r := n) (by omega) (by omega)]; rfl
theorem enc2 (n : Nat) (h : 128 ≤ n) (h' : n ≤ 2047) : enc n = [(192 + n / 64).toUInt8, (128 + n % 64).toUInt8] := by
  simp only [enc, Lib.encodeRune, Lib.encodeRuneZ_two (r := n) (by omega) (by omega)]
  simp only [List.map_cons, List.map_nil]
  rw [show ((192 : Int) + (n : Int) / 64).toNat = 192 + n / 64 by omega, show ((128 : Int) + (n : Int) % 64).toNat = 128 + n % 64 by omega]
theorem enc3 (n : Nat) (h : (2048 ≤ n ∧ n < 55296) ∨ (57343 < n ∧ n ≤ 65535)) : enc n = [(224 + n / 4096).toUInt8, (128 + n / 64 % 64).toUInt8, (128 + n % 64).toUInt8] := by
  simp only [enc, Lib.encodeRune, Lib.encodeRuneZ_three (r := n) (by omega)]
  simp only [List.map_cons, List.map_nil]
  rw [show ((224 : Int) + (n : Int) / 4096).toNat = 224 + n / 4096 by omega, show ((128 : Int) + (n : Int) / 64 % 64).toNat = 128 + n / 64 % 64 by omega, show ((128 : Int) + (n : Int) % 64).toNat = 128 + n % 64 by omega]
theorem enc4 (n : Nat) (h : 65536 ≤ n) (h' : n ≤ 1114111) : enc n = [(240 + n / 262144).toUInt8, (128 + n / 4096 % 64).toUInt8, (128 + n / 64 % 64).toUInt8, (128 + n % 64).toUInt8] := by
  simp only [enc, Lib.encodeRune, Lib.encodeRuneZ_four (r := n) (by omega) (by omega)]
  simp only [List.map_cons, List.map_nil]
  rw [show ((240 : Int) + (n : Int) / 262144).toNat = 240 + n / 262144 by omega, show ((128 : Int) + (n : Int) / 4096 % 64).toNat = 128 + n / 4096 % 64 by omega, show ((128 : Int) + (n : Int) / 64 % 64).toNat = 128 + n / 64 % 64 by omega, show ((128 : Int) + (n : Int) % 64).toNat = 128 + n % 64 by omega]
theorem enc_bad (r : Int) (h : ¬ okRune r) : enc r = [239, 191, 189] := by
  simp only [enc, Lib.encodeRune, Lib.encodeRuneZ_bad (r := r) (by unfold okRune at h; omega)]; rfl

theorem valid_iff (r : Int) : Utf8.valid r = decide (okRune r) := by
  rw [Bool.eq_iff_iff, decide_eq_true_iff]
  unfold Utf8.valid okRune
  simp
  omega

theorem dec_enc (n : Nat) (h : okRune n) (t : List UInt8) : dec (enc n ++ t) = (n, (enc n).length) := by
  have hn : n ≤ 127 ∨ (128 ≤ n ∧ n ≤ 2047) ∨ ((2048 ≤ n ∧ n < 55296) ∨ (57343 < n ∧ n ≤ 65535)) ∨ (65536 ≤ n ∧ n ≤ 1114111) := by unfold okRune at h; omega
  rcases hn with h1 | ⟨h1, h2⟩ | h1 | ⟨h1, h2⟩
  · rw [enc1 n h1]
    have e := toNat_u8 n (by omega)
    simp only [dec, List.cons_append, List.getD_cons_zero, e]
    rw [if_pos (by omega)]; rfl
  · rw [enc2 n h1 h2]
    have e1 := toNat_u8 (192 + n / 64) (by omega)
    have e2 := toNat_u8 (128 + n % 64) (by omega)
    simp only [dec, cont, List.cons_append, List.nil_append, List.getD_cons_zero, List.getD_cons_succ, List.length_cons, e1, e2]
    rw [if_neg (by omega), if_pos (by simp; omega), if_pos (by omega)]
    simp; omega
  · rw [enc3 n h1]
    have e1 := toNat_u8 (224 + n / 4096) (by omega)
    have e2 := toNat_u8 (128 + n / 64 % 64) (by omega)
    have e3 := toNat_u8 (128 + n % 64) (by omega)
    have a : (((224 + n / 4096) % 16) * 4096 + ((128 + n / 64 % 64) % 64) * 64 + (128 + n % 64) % 64) = n := by omega
    simp only [dec, cont, List.cons_append, List.nil_append, List.getD_cons_zero, List.getD_cons_succ, List.length_cons, e1, e2, e3, a, valid_iff]
    rw [if_neg (by omega), if_neg (by simp; omega), if_pos (by simp; omega), if_pos (by simp [h]; omega)]
    rfl
  · rw [enc4 n h1 h2]
    have e1 := toNat_u8 (240 + n / 262144) (by omega)
    have e2 := toNat_u8 (128 + n / 4096 % 64) (by omega)
    have e3 := toNat_u8 (128 + n / 64 % 64) (by omega)
    have e4 := toNat_u8 (128 + n % 64) (by omega)
    have a : (((240 + n / 262144) % 8) * 262144 + ((128 + n / 4096 % 64) % 64) * 4096 + ((128 + n / 64 % 64) % 64) * 64 + (128 + n % 64) % 64) = n := by omega
    simp only [dec, cont, List.cons_append, List.nil_append, List.getD_cons_zero, List.getD_cons_succ, List.length_cons, e1, e2, e3, e4, a, valid_iff]
    rw [if_neg (by omega), if_neg (by simp; omega), if_neg (by simp; omega), if_pos (by simp; omega), if_pos (by simp [h]; omega)]
    rfl

theorem u8_of_toNat (c : UInt8) (n : Nat) (h : c.toNat = n) : n.toUInt8 = c := by subst h; simp

/-- Bytes that there are begin with a character's form; or else they are one byte that is none, and they don't begin with the form of 65533. -/
theorem dec_cases (l : List UInt8) (hl : l ≠ []) :
    (okRune ((dec l).1 : Nat) ∧ l = enc ((dec l).1 : Nat) ++ l.drop (dec l).2 ∧ (dec l).2 = (enc ((dec l).1 : Nat)).length) ∨
    (dec l = (65533, 1) ∧ ∀ t, l ≠ [239, 191, 189] ++ t) := by
  obtain ⟨a, l1, rfl⟩ := List.exists_cons_of_ne_nil hl
  have ha := a.toNat_lt
  by_cases c1 : a.toNat < 128
  · left
    have e : dec (a :: l1) = (a.toNat, 1) := by simp only [dec, List.getD_cons_zero]; rw [if_pos c1]
    rw [e]
    refine ⟨by unfold okRune; omega, ?_, ?_⟩
    · rw [enc1 _ (by omega), u8_of_toNat a _ rfl]; rfl
    · rw [enc1 _ (by omega)]; rfl
  by_cases c2 : a.toNat / 32 = 6
  · cases l1 with
    | nil =>
      right
      refine ⟨?_, by simp⟩
      simp only [dec, cont, List.getD_cons_zero, List.length_cons, List.length_nil]
      rw [if_neg c1, if_neg (by simp), if_neg (by simp), if_neg (by simp)]
    | cons b l2 =>
      have hb := b.toNat_lt
      by_cases d : b.toNat / 64 = 2 ∧ (a.toNat % 32) * 64 + b.toNat % 64 ≥ 128
      · left
        have e : dec (a :: b :: l2) = ((a.toNat % 32) * 64 + b.toNat % 64, 2) := by
          simp only [dec, cont, List.getD_cons_zero, List.getD_cons_succ, List.length_cons]
          rw [if_neg c1, if_pos (by simp; omega), if_pos d.2]
        rw [e]
        have f := enc2 ((a.toNat % 32) * 64 + b.toNat % 64) (by omega) (by omega)
        rw [u8_of_toNat a _ (by omega), u8_of_toNat b _ (by omega)] at f
        exact ⟨by unfold okRune; omega, by rw [f]; rfl, by rw [f]; rfl⟩
      · right
        refine ⟨?_, ?_⟩
        · simp only [dec, cont, List.getD_cons_zero, List.getD_cons_succ, List.length_cons]
          rw [if_neg c1]
          by_cases d1 : b.toNat / 64 = 2
          · rw [if_pos (by simp; omega), if_neg (by omega)]
          · rw [if_neg (by simp; omega), if_neg (by simp; omega), if_neg (by simp; omega)]
        · intro t e
          simp only [List.cons_append, List.cons.injEq] at e
          rw [e.1] at c2
          exact absurd c2 (by decide)
  by_cases c3 : a.toNat / 16 = 14
  · match l1 with
    | [] =>
      right
      refine ⟨?_, by simp⟩
      simp only [dec, cont, List.getD_cons_zero, List.length_cons, List.length_nil]
      rw [if_neg c1, if_neg (by simp), if_neg (by simp), if_neg (by simp)]
    | [b] =>
      right
      refine ⟨?_, by simp⟩
      simp only [dec, cont, List.getD_cons_zero, List.length_cons, List.length_nil]
      rw [if_neg c1, if_neg (by simp; omega), if_neg (by simp), if_neg (by simp)]
    | b :: c :: l2 =>
      have hb := b.toNat_lt
      have hc := c.toNat_lt
      by_cases d : b.toNat / 64 = 2 ∧ c.toNat / 64 = 2 ∧ (a.toNat % 16) * 4096 + (b.toNat % 64) * 64 + c.toNat % 64 ≥ 2048 ∧ okRune ((a.toNat % 16) * 4096 + (b.toNat % 64) * 64 + c.toNat % 64 : Nat)
      · left
        obtain ⟨d1, d2, d3, d4⟩ := d
        have e : dec (a :: b :: c :: l2) = ((a.toNat % 16) * 4096 + (b.toNat % 64) * 64 + c.toNat % 64, 3) := by
          simp only [dec, cont, List.getD_cons_zero, List.getD_cons_succ, List.length_cons, valid_iff]
          rw [if_neg c1, if_neg (by simp; omega), if_pos (by simp; omega), if_pos (by rw [decide_eq_true d4]; simp; omega)]
        rw [e]
        have d5 := d4
        unfold okRune at d5
        have f := enc3 ((a.toNat % 16) * 4096 + (b.toNat % 64) * 64 + c.toNat % 64) (by omega)
        rw [u8_of_toNat a _ (by omega), u8_of_toNat b _ (by omega), u8_of_toNat c _ (by omega)] at f
        exact ⟨d4, by rw [f]; rfl, by rw [f]; rfl⟩
      · right
        refine ⟨?_, ?_⟩
        · simp only [dec, cont, List.getD_cons_zero, List.getD_cons_succ, List.length_cons, valid_iff]
          rw [if_neg c1, if_neg (by simp; omega)]
          by_cases d1 : b.toNat / 64 = 2 ∧ c.toNat / 64 = 2
          · rw [if_pos (by simp; omega), if_neg ?_]
            intro h
            simp only [Bool.and_eq_true, decide_eq_true_eq] at h
            exact d ⟨d1.1, d1.2, h.1, h.2⟩
          · rw [if_neg (by simp; omega), if_neg (by simp; omega)]
        · intro t e
          simp only [List.cons_append, List.nil_append, List.cons.injEq] at e
          obtain ⟨rfl, rfl, rfl, _⟩ := e
          exact d ⟨by decide, by decide, by decide, by unfold okRune; decide⟩
  by_cases c4 : a.toNat / 8 = 30
  · match l1 with
    | [] =>
      right
      refine ⟨?_, by simp⟩
      simp only [dec, cont, List.getD_cons_zero, List.length_cons, List.length_nil]
      rw [if_neg c1, if_neg (by simp), if_neg (by simp), if_neg (by simp)]
    | [b] =>
      right
      refine ⟨?_, by simp⟩
      simp only [dec, cont, List.getD_cons_zero, List.length_cons, List.length_nil]
      rw [if_neg c1, if_neg (by simp; omega), if_neg (by simp), if_neg (by simp)]
    | [b, c] =>
      right
      refine ⟨?_, fun t e => ?_⟩
      · simp only [dec, cont, List.getD_cons_zero, List.length_cons, List.length_nil]
        rw [if_neg c1, if_neg (by simp; omega), if_neg (by simp; omega), if_neg (by simp)]
      · simp only [List.cons_append, List.cons.injEq] at e
        rw [e.1] at c4
        exact absurd c4 (by decide)
    | b :: c :: f :: l2 =>
      have hb := b.toNat_lt
      have hc := c.toNat_lt
      have hf := f.toNat_lt
      by_cases d : b.toNat / 64 = 2 ∧ c.toNat / 64 = 2 ∧ f.toNat / 64 = 2 ∧ (a.toNat % 8) * 262144 + (b.toNat % 64) * 4096 + (c.toNat % 64) * 64 + f.toNat % 64 ≥ 65536 ∧ okRune ((a.toNat % 8) * 262144 + (b.toNat % 64) * 4096 + (c.toNat % 64) * 64 + f.toNat % 64 : Nat)
      · left
        obtain ⟨d1, d2, d3, d4, d5⟩ := d
        have e : dec (a :: b :: c :: f :: l2) = ((a.toNat % 8) * 262144 + (b.toNat % 64) * 4096 + (c.toNat % 64) * 64 + f.toNat % 64, 4) := by
          simp only [dec, cont, List.getD_cons_zero, List.getD_cons_succ, List.length_cons, valid_iff]
          rw [if_neg c1, if_neg (by simp; omega), if_neg (by simp; omega), if_pos (by simp; omega), if_pos (by rw [decide_eq_true d5]; simp; omega)]
        rw [e]
        have d6 := d5
        unfold okRune at d6
        have g := enc4 ((a.toNat % 8) * 262144 + (b.toNat % 64) * 4096 + (c.toNat % 64) * 64 + f.toNat % 64) (by omega) (by omega)
        rw [u8_of_toNat a _ (by omega), u8_of_toNat b _ (by omega), u8_of_toNat c _ (by omega), u8_of_toNat f _ (by omega)] at g
        exact ⟨d5, by rw [g]; rfl, by rw [g]; rfl⟩
      · right
        refine ⟨?_, ?_⟩
        · simp only [dec, cont, List.getD_cons_zero, List.getD_cons_succ, List.length_cons, valid_iff]
          rw [if_neg c1, if_neg (by simp; omega), if_neg (by simp; omega)]
          by_cases d1 : b.toNat / 64 = 2 ∧ c.toNat / 64 = 2 ∧ f.toNat / 64 = 2
          · rw [if_pos (by simp; omega), if_neg ?_]
            intro h
            simp only [Bool.and_eq_true, decide_eq_true_eq] at h
            exact d ⟨d1.1, d1.2.1, d1.2.2, h.1, h.2⟩
          · rw [if_neg (by simp; omega)]
        · intro t e
          simp only [List.cons_append, List.cons.injEq] at e
          rw [e.1] at c4
          exact absurd c4 (by decide)
  right
  refine ⟨?_, ?_⟩
  · simp only [dec, List.getD_cons_zero]
    rw [if_neg c1, if_neg (by simp [c2]), if_neg (by simp [c3]), if_neg (by simp [c4])]
  · intro t e
    simp only [List.cons_append, List.cons.injEq] at e
    rw [e.1] at c3
    exact absurd (by decide) c3
theorem dec_pos (l : List UInt8) (hl : l ≠ []) : 1 ≤ (dec l).2 := by
  rcases dec_cases l hl with ⟨_, _, h⟩ | ⟨h, _⟩
  · rw [h]
    have := (Lib.encodeRuneZ_length ((dec l).1 : Nat)).1
    simpa [enc, Lib.encodeRune] using this
  · rw [h]; exact Nat.le_refl _
theorem dec_le (l : List UInt8) (hl : l ≠ []) : (dec l).2 ≤ l.length := by
  rcases dec_cases l hl with ⟨_, h, h'⟩ | ⟨h, _⟩
  · have := congrArg List.length h
    rw [List.length_append, List.length_drop] at this
    omega
  · rw [h]; exact List.length_pos_iff.2 hl
theorem dec_lt (l : List UInt8) : (dec l).1 < 1114112 := by
  cases l with
  | nil => decide
  | cons a t =>
    rcases dec_cases (a :: t) (by simp) with ⟨h, _⟩ | ⟨h, _⟩
    · unfold okRune at h; omega
    · rw [h]; decide

/-- Bytes' characters. -/
def runes (l : List UInt8) : List Int :=
  match l with
  | [] => []
  | c :: t => ((dec (c :: t)).1 : Int) :: runes (t.drop ((dec (c :: t)).2 - 1))
termination_by l.length
decreasing_by simp; omega

theorem runes_nil : runes [] = [] := by rw [runes]
theorem runes_step (l : List UInt8) (hl : l ≠ []) : runes l = ((dec l).1 : Int) :: runes (l.drop (dec l).2) := by
  obtain ⟨c, t, rfl⟩ := List.exists_cons_of_ne_nil hl
  have h := dec_pos (c :: t) (by simp)
  rw [runes]
  congr 2
  obtain ⟨k, hk⟩ : ∃ k, (dec (c :: t)).2 = k + 1 := ⟨_, (Nat.sub_add_cancel h).symm⟩
  rw [hk]; rfl

theorem runes_enc (n : Nat) (h : okRune n) (t : List UInt8) : runes (enc n ++ t) = (n : Int) :: runes t := by
  have hd := dec_enc n h t
  have hne : enc n ++ t ≠ [] := by
    have := (Lib.encodeRuneZ_length (n : Int)).1
    intro e
    have e2 := congrArg List.length e
    simp [enc, Lib.encodeRune] at e2
    rw [e2.1] at this
    simp at this
  rw [runes_step _ hne, hd, List.drop_left]

/-- Characters' text. -/
def text (l : List Int) : List UInt8 := l.flatMap enc
theorem text_append (a b : List Int) : text (a ++ b) = text a ++ text b := by simp [text]
theorem text_cons (a : Int) (b : List Int) : text (a :: b) = enc a ++ text b := by simp [text]

theorem runes_text (l : List Int) (h : ∀ r ∈ l, okRune r) (t : List UInt8) : runes (text l ++ t) = l ++ runes t := by
  induction l with
  | nil => rfl
  | cons r l ih =>
    have h1 := h r (by simp)
    obtain ⟨n, rfl⟩ : ∃ n : Nat, r = n := ⟨r.toNat, by unfold okRune at h1; omega⟩
    rw [text_cons, List.append_assoc, runes_enc n h1, ih (fun x hx => h x (by simp [hx]))]
    rfl

/-- Of characters: the ends of lines made one 10, 0 made 65533. p: whether a 13 stands right ahead. -/
def mk : Bool → List Int → List Int
  | _, [] => []
  | p, r :: l => (if r = 13 then [10] else if r = 10 ∧ p = true then [] else if r = 0 then [65533] else [r]) ++ mk (decide (r = 13)) l
def right (l : List UInt8) : List UInt8 := text (mk false (runes l))

/-- Is the text right? (each character asked as it is met) -/
def isB (l : List UInt8) : Bool :=
  match l with
  | [] => true
  | c :: t => !((dec (c :: t)).1 == 0 || (dec (c :: t)).1 == 13 || ((dec (c :: t)).1 == 65533 && !((c :: t).take 3 == [239, 191, 189]))) && isB (t.drop ((dec (c :: t)).2 - 1))
termination_by l.length
decreasing_by simp; omega
theorem isB_nil : isB [] = true := by rw [isB]
theorem isB_step (l : List UInt8) (hl : l ≠ []) : isB l = (!((dec l).1 == 0 || (dec l).1 == 13 || ((dec l).1 == 65533 && !(l.take 3 == [239, 191, 189]))) && isB (l.drop (dec l).2)) := by
  obtain ⟨c, t, rfl⟩ := List.exists_cons_of_ne_nil hl
  have h := dec_pos (c :: t) (by simp)
  rw [isB]
  congr 2
  obtain ⟨k, hk⟩ : ∃ k, (dec (c :: t)).2 = k + 1 := ⟨_, (Nat.sub_add_cancel h).symm⟩
  rw [hk]; rfl

theorem enc_head (n : Nat) (h : okRune n) : ∃ a t, enc n = a :: t ∧ (n < 128 → a.toNat = n) ∧ (128 ≤ n → 128 ≤ a.toNat) := by
  have hn : n ≤ 127 ∨ (128 ≤ n ∧ n ≤ 2047) ∨ ((2048 ≤ n ∧ n < 55296) ∨ (57343 < n ∧ n ≤ 65535)) ∨ (65536 ≤ n ∧ n ≤ 1114111) := by unfold okRune at h; omega
  rcases hn with h1 | ⟨h1, h2⟩ | h1 | ⟨h1, h2⟩
  · exact ⟨_, _, enc1 n h1, fun _ => toNat_u8 n (by omega), fun _ => by omega⟩
  · exact ⟨_, _, enc2 n h1 h2, fun _ => by omega, fun _ => by rw [toNat_u8 _ (by omega)]; omega⟩
  · exact ⟨_, _, enc3 n h1, fun _ => by omega, fun _ => by rw [toNat_u8 _ (by omega)]; omega⟩
  · exact ⟨_, _, enc4 n h1 h2, fun _ => by omega, fun _ => by rw [toNat_u8 _ (by omega)]; omega⟩

theorem enc_fffd : enc 65533 = [239, 191, 189] := by decide

/-- A text is right just if it is made right as itself. -/
theorem isB_iff : ∀ (n : Nat) (l : List UInt8), l.length ≤ n → (isB l = true ↔ text (mk false (runes l)) = l) := by
  intro n
  induction n with
  | zero => intro l hl; have : l = [] := List.eq_nil_of_length_eq_zero (by omega); subst this; rw [isB_nil, runes_nil]; simp [mk, text]
  | succ n ih =>
    intro l hl
    by_cases hne : l = []
    · subst hne; rw [isB_nil, runes_nil]; simp [mk, text]
    have hpos := dec_pos l hne
    have hlen := List.length_pos_iff.2 hne
    have ih' := ih (l.drop (dec l).2) (by rw [List.length_drop]; omega)
    rw [isB_step l hne, runes_step l hne]
    rcases dec_cases l hne with ⟨hok, hl2, hw⟩ | ⟨hbad, hno⟩
    · generalize hr : (dec l).1 = r at *
      generalize hrest : l.drop (dec l).2 = rest at *
      obtain ⟨a, t, ha, ha1, ha2⟩ := enc_head r hok
      by_cases h0 : r = 0
      · subst h0
        constructor
        · intro h; simp at h
        · intro h
          rw [hl2] at h
          simp only [mk, text_append] at h
          rw [if_neg (by decide), if_neg (by simp), if_pos (by rfl), text_cons, show enc 65533 = [239, 191, 189] from enc_fffd, show enc ((0 : Nat) : Int) = [0] from by decide] at h
          simp at h
      by_cases h13 : r = 13
      · subst h13
        constructor
        · intro h; simp at h
        · intro h
          rw [hl2] at h
          simp only [mk, text_append] at h
          rw [if_pos (by rfl), text_cons, show enc 10 = [10] from by decide, show enc ((13 : Nat) : Int) = [13] from by decide] at h
          simp at h
      have hmk : text (mk false ((r : Int) :: runes rest)) = enc r ++ text (mk false (runes rest)) := by
        simp only [mk]
        rw [if_neg (by omega), if_neg (by simp), if_neg (by omega), text_append, decide_eq_false (by omega : ¬ (r : Int) = 13)]
        simp [text]
      rw [hmk]
      have hsp : (r == 65533 && !(l.take 3 == [239, 191, 189])) = false := by
        by_cases hf : r = 65533
        · subst hf
          rw [hl2, show enc ((65533 : Nat) : Int) = [239, 191, 189] from enc_fffd]
          simp
        · simp [hf]
      rw [hsp]
      have hb : (r == 0 || r == 13 || false) = false := by simp [h0, h13]
      rw [hb]
      simp only [Bool.not_false, Bool.true_and]
      rw [ih']
      constructor
      · intro h; rw [h]; exact hl2.symm
      · intro h
        have h2 : enc (r : Int) ++ text (mk false (runes rest)) = enc (r : Int) ++ rest := h.trans hl2
        exact List.append_cancel_left h2
    · rw [hbad]
      have hnt : (l.take 3 == [239, 191, 189]) = false := by
        rw [beq_eq_false_iff_ne]
        intro h
        exact hno (l.drop 3) (by rw [← h, List.take_append_drop])
      rw [hnt]
      constructor
      · intro h; simp at h
      · intro h
        exfalso
        simp only [mk] at h
        rw [if_neg (by decide), if_neg (by simp), if_neg (by decide), text_append, text_cons, show enc ((65533 : Nat) : Int) = [239, 191, 189] from enc_fffd] at h
        exact hno _ (by rw [← h]; simp only [List.append_assoc]; rfl)

theorem isB_right_iff (l : List UInt8) : isB l = true ↔ right l = l := isB_iff l.length l (Nat.le_refl _)

theorem runes_ok (n : Nat) : ∀ (l : List UInt8), l.length ≤ n → ∀ r ∈ runes l, okRune r := by
  induction n with
  | zero => intro l hl; have : l = [] := List.eq_nil_of_length_eq_zero (by omega); subst this; rw [runes_nil]; simp
  | succ n ih =>
    intro l hl r hr
    by_cases hne : l = []
    · subst hne; rw [runes_nil] at hr; simp at hr
    have hpos := dec_pos l hne
    have hlen := List.length_pos_iff.2 hne
    rw [runes_step l hne] at hr
    rcases List.mem_cons.1 hr with rfl | hr
    · rcases dec_cases l hne with ⟨hok, _⟩ | ⟨hbad, _⟩
      · exact hok
      · rw [hbad]; decide
    · exact ih (l.drop (dec l).2) (by rw [List.length_drop]; omega) r hr

/-- What 'mk' leaves: characters that may be, none 0 or 13. -/
theorem mk_ok : ∀ (l : List Int) (p : Bool), (∀ r ∈ l, okRune r) → ∀ r ∈ mk p l, okRune r ∧ r ≠ 0 ∧ r ≠ 13
  | [], _, _, r, hr => by simp [mk] at hr
  | x :: l, p, h, r, hr => by
    simp only [mk] at hr
    rcases List.mem_append.1 hr with hr | hr
    · by_cases h13 : x = 13
      · rw [if_pos h13] at hr; simp at hr; subst hr; decide
      rw [if_neg h13] at hr
      by_cases h10 : x = 10 ∧ p = true
      · rw [if_pos h10] at hr; simp at hr
      rw [if_neg h10] at hr
      by_cases h0 : x = 0
      · rw [if_pos h0] at hr; simp at hr; subst hr; decide
      · rw [if_neg h0] at hr; simp at hr; subst hr; exact ⟨h _ (by simp), h0, h13⟩
    · exact mk_ok l _ (fun y hy => h y (by simp [hy])) r hr

theorem mk_fix : ∀ (l : List Int), (∀ r ∈ l, r ≠ 0 ∧ r ≠ 13) → mk false l = l
  | [], _ => rfl
  | x :: l, h => by
    have hx := h x (by simp)
    simp only [mk]
    rw [if_neg hx.2, if_neg (by simp), if_neg hx.1, decide_eq_false hx.2, mk_fix l (fun y hy => h y (by simp [hy]))]
    rfl

theorem right_ok (l : List UInt8) : ∀ r ∈ mk false (runes l), okRune r ∧ r ≠ 0 ∧ r ≠ 13 := mk_ok _ _ (runes_ok l.length l (Nat.le_refl _))

theorem runes_right (l t : List UInt8) : runes (right l ++ t) = mk false (runes l) ++ runes t := runes_text _ (fun r hr => (right_ok l r hr).1) t

theorem right_right (l : List UInt8) : right (right l) = right l := by
  have h := runes_right l []
  simp only [List.append_nil, runes_nil] at h
  show text (mk false (runes (right l))) = _
  rw [h, mk_fix _ (fun r hr => (right_ok l r hr).2)]
  rfl

theorem isB_right (l : List UInt8) : isB (right l) = true := (isB_right_iff _).2 (right_right l)

theorem isB_join (a b : List UInt8) : isB (right a ++ right b) = true := by
  rw [isB_right_iff]
  have h := runes_right a (right b)
  have h2 := runes_right b []
  simp only [List.append_nil, runes_nil] at h2
  rw [h2] at h
  show text (mk false (runes (right a ++ right b))) = _
  rw [h, mk_fix _ (fun r hr => by rcases List.mem_append.1 hr with hr | hr; exact (right_ok a r hr).2; exact (right_ok b r hr).2), text_append]
  rfl

theorem text_len (l : List Int) : l.length ≤ (text l).length := by
  induction l with
  | nil => simp
  | cons r l ih =>
    rw [text_cons, List.length_append]
    have := (Lib.encodeRuneZ_length r).1
    have e : (enc r).length = (Lib.encodeRuneZ r).length := by simp [enc, Lib.encodeRune]
    simp; omega
theorem text_len_le (l : List Int) : (text l).length ≤ 4 * l.length := by
  induction l with
  | nil => simp [text]
  | cons r l ih =>
    rw [text_cons, List.length_append]
    have := (Lib.encodeRuneZ_length r).2
    have e : (enc r).length = (Lib.encodeRuneZ r).length := by simp [enc, Lib.encodeRune]
    simp; omega
theorem mk_len : ∀ (l : List Int) (p : Bool), (mk p l).length ≤ l.length
  | [], _ => by simp [mk]
  | x :: l, p => by
    have := mk_len l (decide (x = 13))
    simp only [mk, List.length_append, List.length_cons]
    split
    · simp; omega
    split
    · simp; omega
    split <;> (simp; omega)
theorem runes_len (n : Nat) : ∀ (l : List UInt8), l.length ≤ n → (runes l).length ≤ l.length := by
  induction n with
  | zero => intro l hl; have : l = [] := List.eq_nil_of_length_eq_zero (by omega); subst this; rw [runes_nil]; simp
  | succ n ih =>
    intro l hl
    by_cases hne : l = []
    · subst hne; rw [runes_nil]; simp
    have hpos := dec_pos l hne
    have hlen := List.length_pos_iff.2 hne
    have := ih (l.drop (dec l).2) (by rw [List.length_drop]; omega)
    rw [runes_step l hne]
    rw [List.length_drop] at this
    simp; omega
theorem right_len (l : List UInt8) : (right l).length ≤ 4 * l.length := by
  have h1 := text_len_le (mk false (runes l))
  have h2 := mk_len (runes l) false
  have h3 := runes_len l.length l (Nat.le_refl _)
  unfold right; omega

/-! ### Small letters -/
def small (c : UInt8) : UInt8 := if 65 ≤ c.toNat ∧ c.toNat ≤ 90 then c + 32 else c
theorem small_nat (c : UInt8) : (small c).toNat = if 65 ≤ c.toNat ∧ c.toNat ≤ 90 then c.toNat + 32 else c.toNat := by
  unfold small
  split
  · rw [UInt8.toNat_add]; simp; omega
  · rfl
theorem small_small (c : UInt8) : small (small c) = small c := by
  have h := small_nat c
  rw [small, if_neg]
  split at h <;> omega
theorem small_not (c : UInt8) : ¬ (65 ≤ (small c).toNat ∧ (small c).toNat ≤ 90) := by
  have h := small_nat c
  split at h <;> omega
def fold (l : List UInt8) : List UInt8 := l.map small
theorem fold_fold (l : List UInt8) : fold (fold l) = fold l := by simp [fold, small_small]
/-- Does s begin, folded, with p? -/
def prefixB (s p : List UInt8) : Bool := decide (p.length ≤ s.length) && (fold (s.take p.length) == p)
theorem prefixB_short (s p : List UInt8) (h : s.length < p.length) : prefixB s p = false := by simp [prefixB]; omega
theorem prefixB_diff (s p : List UInt8) (k : Nat) (h : k < p.length) (h' : k < s.length) (hd : ¬ small s[k] = p[k]) : prefixB s p = false := by
  unfold prefixB
  rw [Bool.and_eq_false_iff]
  right
  rw [beq_eq_false_iff_ne]
  intro h1
  have h2 := congrArg (fun l => l[k]?) h1
  simp only [fold, List.getElem?_map, List.getElem?_take, if_pos h, List.getElem?_eq_getElem h', List.getElem?_eq_getElem h, Option.map_some, Option.some.injEq] at h2
  exact hd h2
theorem prefixB_yes (s p : List UInt8) (h : p.length ≤ s.length) (he : fold (s.take p.length) = p) : prefixB s p = true := by
  unfold prefixB
  rw [decide_eq_true h, he]; simp
/-- The first k bytes folded, the rest as it is. -/
def foldTo (l : List UInt8) (k : Nat) : List UInt8 := fold (l.take k) ++ l.drop k
theorem foldTo_zero (l : List UInt8) : foldTo l 0 = l := by simp [foldTo, fold]
theorem foldTo_all (l : List UInt8) (k : Nat) (h : l.length ≤ k) : foldTo l k = fold l := by simp [foldTo, List.take_of_length_le h, List.drop_of_length_le h]
theorem foldTo_length (l : List UInt8) (k : Nat) : (foldTo l k).length = l.length := by simp [foldTo, fold]; omega
theorem foldTo_get (l : List UInt8) (k : Nat) (h : k < l.length) : (foldTo l k)[k]? = some l[k] := by
  unfold foldTo
  have hl : (fold (l.take k)).length = k := by simp [fold]; omega
  rw [List.getElem?_append_right (by omega), hl, Nat.sub_self, List.getElem?_drop, Nat.add_zero, List.getElem?_eq_getElem h]
theorem foldTo_set (l : List UInt8) (k : Nat) (h : k < l.length) : (foldTo l k).set k (small l[k]) = foldTo l (k + 1) := by
  unfold foldTo
  have e1 : l.take (k + 1) = l.take k ++ [l[k]] := List.take_succ_eq_append_getElem h
  have e2 : l.drop k = l[k] :: l.drop (k + 1) := List.drop_eq_getElem_cons h
  have hl : (fold (l.take k)).length = k := by simp [fold]; omega
  rw [List.set_append_right _ _ (by omega), hl, Nat.sub_self, e1, e2, List.set_cons_zero]
  unfold fold
  rw [List.map_append, List.append_assoc]
  rfl
end M1
end Go.Proofs.Yteefodibpjgicaa

/- What came in: a row of numbers as a slice that reads; a text as bytes and back; frames one behind the other. -/
namespace Go.Proofs.Yteefodibpjgicaa
open Go.RowKit

theorem add_plain' (b off j : Nat) : (⟨b, off, none⟩ : Addr).add j = ⟨b, off + j, none⟩ := by unfold Addr.add; split <;> simp_all

theorem sl_row {k : IntKind} {w : World} {x : Addr} {len cap : Nat} {zs : List Int} (hl : len ≤ cap) (hm : cap ≤ maxLen) (hz : zs.length = cap) (hc : ∀ i, i < zs.length → w.cell? (x.add i) = some (.int k (zs.getD i 0))) :
    Sl w (.slice (some x) len cap) ((zs.take len).map (Value.int k)) := by
  have hlen : ((zs.take len).map (Value.int k)).length = len := by simp; omega
  unfold maxLen at hm
  refine ⟨some x, cap, by rw [hlen], by rw [hlen]; exact hl, by omega, (fun h => by cases h), fun hne => ?_⟩
  have hpos : 0 < len := by
    rcases Nat.eq_zero_or_pos len with h | h
    · subst h; simp at hne
    · exact h
  obtain ⟨b, off, spot⟩ := x
  have hspot : spot = none := by simpa [Addr.add] using World.cell?_spot (hc 0 (by omega))
  subst hspot
  refine ⟨b, off, rfl, fun j hj => ?_⟩
  rw [hlen] at hj
  have h := hc j (by omega)
  rw [add_plain'] at h
  rw [h]
  simp [List.getD_eq_getElem?_getD, List.getElem?_eq_getElem (show j < zs.length by omega)]

theorem sl_row8 {w : World} {x : Addr} {len cap : Nat} {zs : List Int} (hl : len ≤ cap) (hm : cap ≤ maxLen) (hz : zs.length = cap) (hc : ∀ i, i < zs.length → w.cell? (x.add i) = some (.int .u8 (zs.getD i 0))) (hw : ∀ n ∈ zs, (Lit.int .u8 n).wf = true) :
    Sl w (.slice (some x) len cap) (u8s ((zs.take len).map fun n => n.toNat.toUInt8)) := by
  have h := sl_row hl hm hz hc
  have e : u8s ((zs.take len).map fun n => n.toNat.toUInt8) = (zs.take len).map (Value.int .u8) := by
    simp only [u8s, Lib.byteCells, List.map_map]
    apply List.map_congr_left
    intro n hn
    have h1 := hw n (List.mem_of_mem_take hn)
    have h2 : IntKind.u8.min = 0 := rfl
    have h3 : IntKind.u8.max = 255 := rfl
    simp only [Lit.wf, Bool.and_eq_true, decide_eq_true_eq, h2, h3] at h1
    have h4 := M1.toNat_u8 n.toNat (by omega)
    simp only [Function.comp, h4]
    congr 1
    omega
  rw [e]; exact h

theorem Sl.fresh' (w : World) (e : TypeId) (xs : List Value) (n : Nat) (hn : xs.length = n) (h : n ≤ 4000) : Sl (w.alloc (.cells xs.toArray e)) (.slice (some ⟨w.heap.size, 0, none⟩) n n) xs := by
  subst hn
  refine ⟨_, xs.length, rfl, Nat.le_refl _, by omega, (fun h => by cases h), fun _ => ⟨_, 0, rfl, fun j hj => ?_⟩⟩
  rw [Nat.zero_add, World.cell?_alloc_at _ _ _ _ rfl]
  simp [hj]


theorem bt {w w1 w2 : World} (h : Below w.heap.size w w1) (k : Below w1.heap.size w1 w2) : Below w.heap.size w w2 := h.trans (k.mono h.size)

/-- What '[]byte(s)' leaves, said without the row's size. -/
theorem conv_bytes (w : World) (s : ByteArray) (hs : s.size ≤ 9223372036854775807) : ∃ v w', (convert 9 51 (.string s)).run Try.prog w = .ok v w' ∧ Sl w' v (u8s s.data.toList) ∧ Below w.heap.size w w' :=
  ⟨_, _, Lib.run_convert_string_bytes (P := Try.prog) w 9 51 5 s Try.underlying9 Try.underlying51 Try.underlying5, Sl.bytes w 5 s hs, below_bytesWorld w 5 s⟩
theorem conv_back {w : World} {v : Value} {l : List UInt8} (h : Sl w v (u8s l)) : (convert 51 9 v).run Try.prog w = .ok (.string ⟨l.toArray⟩) w :=
  h.toString 51 9 5 Try.underlying51 Try.underlying5 Try.underlying9
end Go.Proofs.Yteefodibpjgicaa

/- Layer 3 by plain definitions: nodes, their names, which may be, their weight, all of them, merged, cut. No program in it. -/
namespace Go.Proofs.Yteefodibpjgicaa

/-- An attribute, a node. -/
structure Att where
  name : ByteArray
  value : ByteArray
inductive Nd where
  | mk (kind : Int) (name : ByteArray) (attrs : List Att) (text : ByteArray) (kids : List Nd)

theorem Nd.ind {P : List Nd → Prop} (h0 : P []) (h1 : ∀ k n a t ks r, P ks → P r → P (Nd.mk k n a t ks :: r)) : ∀ l, P l
  | [] => h0
  | .mk k n a t ks :: r => h1 k n a t ks r (Nd.ind h0 h1 ks) (Nd.ind h0 h1 r)
termination_by l => SizeOf.sizeOf l

def Nd.kind : Nd → Int | .mk k _ _ _ _ => k
def Nd.name : Nd → ByteArray | .mk _ n _ _ _ => n
def Nd.attrs : Nd → List Att | .mk _ _ a _ _ => a
def Nd.text : Nd → ByteArray | .mk _ _ _ t _ => t
def Nd.kids : Nd → List Nd | .mk _ _ _ _ ks => ks
theorem Nd.eta (x : Nd) : x = .mk x.kind x.name x.attrs x.text x.kids := by cases x; rfl

namespace M3
/-- Two texts are the same. -/
def eqB (s t : ByteArray) : Bool := s.toList == t.toList
theorem eqB_iff {s t : ByteArray} : eqB s t = true ↔ s = t := by
  unfold eqB
  rw [beq_iff_eq]
  constructor
  · intro h
    rw [ByteArray.toList_eq, ByteArray.toList_eq] at h
    cases s; cases t
    congr 1
    exact Array.ext' h
  · rintro rfl; rfl
theorem eqB_self (s : ByteArray) : eqB s s = true := eqB_iff.2 rfl
theorem eqB_false {s t : ByteArray} : eqB s t = false ↔ s ≠ t := by
  rw [← Bool.not_eq_true, eqB_iff]
def nilB (s : ByteArray) : Bool := s.toList.isEmpty
theorem nilB_iff {s : ByteArray} : nilB s = true ↔ s.data.toList = [] := by
  unfold nilB
  rw [ByteArray.toList_eq, List.isEmpty_iff]

/-! ### Names -/
def smallB (c : UInt8) : Bool := decide (97 ≤ c.toNat ∧ c.toNat ≤ 122)
def nameB (c : UInt8) : Bool := smallB c || decide (c.toNat = 45 ∨ (48 ≤ c.toNat ∧ c.toNat ≤ 57))
def namedB : List UInt8 → Bool
  | [] => false
  | c :: r => smallB c && r.all nameB
def badB (c : UInt8) : Bool := c.toNat == 9 || c.toNat == 10 || c.toNat == 12 || c.toNat == 32 || c.toNat == 47 || c.toNat == 62 || c.toNat == 61
def capB (c : UInt8) : Bool := decide (65 ≤ c.toNat ∧ c.toNat ≤ 90)
def attributedB (l : List UInt8) : Bool := !l.isEmpty && (M1.isB l && !(l.any capB) && !(l.any badB))
def voidB (l : List UInt8) : Bool := l == [98, 114] || l == [104, 114] || l == [105, 109, 103] || l == [105, 110, 112, 117, 116] || l == [119, 98, 114]
def rawB (l : List UInt8) : Bool := l == [115, 99, 114, 105, 112, 116] || l == [115, 116, 121, 108, 101]

/-- What is left of a name from a place on. -/
def tailB (l : List UInt8) (p : Nat) : Bool := if p = 0 then namedB l else (l.drop p).all nameB
def okR (p : Nat) (r : Int) : Prop := (97 ≤ r ∧ r ≤ 122) ∨ (p ≠ 0 ∧ (r = 45 ∨ (48 ≤ r ∧ r ≤ 57)))
theorem tail_no {l : List UInt8} {p : Nat} (h : p < l.length) (hr : ¬ okR p (l[p].toNat : Int)) : tailB l p = false := by
  unfold tailB okR at *
  by_cases h0 : p = 0
  · subst h0
    rw [if_pos rfl]
    cases l with
    | nil => simp at h
    | cons c r => simp [namedB, smallB] at hr ⊢; intro h1 h2; omega
  · rw [if_neg h0, List.drop_eq_getElem_cons h, List.all_cons]
    have : nameB l[p] = false := by simp [nameB, smallB, h0] at hr ⊢; omega
    rw [this]; rfl
theorem tail_yes {l : List UInt8} {p : Nat} (h : p < l.length) (hr : okR p (l[p].toNat : Int)) : tailB l p = tailB l (p + 1) := by
  unfold tailB okR at *
  rw [if_neg (show ¬ p + 1 = 0 by omega)]
  by_cases h0 : p = 0
  · subst h0
    rw [if_pos rfl]
    cases l with
    | nil => simp at h
    | cons c r => simp [namedB, smallB] at hr ⊢; intro _; exact ⟨by omega, by omega⟩
  · rw [if_neg h0, List.drop_eq_getElem_cons h, List.all_cons]
    have : nameB l[p] = true := by simp [nameB, smallB, h0] at hr ⊢; omega
    rw [this]; rfl
theorem tail_end {l : List UInt8} : tailB l l.length = !l.isEmpty := by
  unfold tailB
  cases l with
  | nil => rfl
  | cons c r => rw [if_neg (by simp)]; simp

/-! ### Which nodes may be -/
def namesE : List ByteArray → List Att → Int
  | _, [] => 0
  | seen, a :: r => if attributedB a.name.data.toList then (if seen.any (eqB a.name) then 5 else namesE (seen ++ [a.name]) r) else 4
def valuesE : List Att → Int
  | [] => 0
  | a :: r => if M1.isB a.value.data.toList then valuesE r else 2
def elemE (x : Nd) : Int :=
  if nilB x.text then (if namedB x.name.data.toList then (if namesE [] x.attrs = 0 then valuesE x.attrs else namesE [] x.attrs) else 4) else 7
def plainB (x : Nd) : Bool := nilB x.name && x.attrs.isEmpty && x.kids.isEmpty
/-- A node's own error; 'p': it stands right behind a text. -/
def oneE (x : Nd) (p : Bool) : Int :=
  if x.kind = 1 then elemE x
  else if x.kind = 2 then (if plainB x then (if M1.isB x.text.data.toList && !(nilB x.text || p) then 0 else 2) else 7)
  else if x.kind = 3 then (if plainB x then (if M1.isB x.text.data.toList then 0 else 2) else 7)
  else 7
def mayE : Bool → List Nd → Int
  | _, [] => 0
  | p, .mk k n a t ks :: r => if oneE (.mk k n a t ks) p ≠ 0 then oneE (.mk k n a t ks) p else if mayE false ks ≠ 0 then mayE false ks else mayE (k == 2) r
termination_by _ l => SizeOf.sizeOf l
theorem mayE_nil (p : Bool) : mayE p [] = 0 := by rw [mayE]
theorem mayE_cons (p : Bool) (x : Nd) (r : List Nd) : mayE p (x :: r) = if oneE x p ≠ 0 then oneE x p else if mayE false x.kids ≠ 0 then mayE false x.kids else mayE (x.kind == 2) r := by
  cases x
  rw [mayE]
  rfl

/-! ### All nodes, each with the Kind of the one ahead of it -/
def seqN : Int → List Nd → List (Nd × Int)
  | _, [] => []
  | a, .mk k n at_ t ks :: r => (.mk k n at_ t ks, a) :: (seqN 0 ks ++ seqN k r)
termination_by _ l => SizeOf.sizeOf l
theorem seqN_nil (a : Int) : seqN a [] = [] := by rw [seqN]
theorem seqN_cons (a : Int) (x : Nd) (r : List Nd) : seqN a (x :: r) = (x, a) :: (seqN 0 x.kids ++ seqN x.kind r) := by cases x; rw [seqN]; rfl
def all : List Nd → List Nd
  | [] => []
  | .mk k n at_ t ks :: r => .mk k n at_ t ks :: (all ks ++ all r)
termination_by l => SizeOf.sizeOf l
theorem all_nil : all [] = [] := by rw [all]
theorem all_cons (x : Nd) (r : List Nd) : all (x :: r) = x :: (all x.kids ++ all r) := by cases x; rw [all]; rfl
def weight : List Nd → Nat
  | [] => 0
  | .mk _ _ at_ _ ks :: r => 1 + at_.length + weight ks + weight r
termination_by l => SizeOf.sizeOf l
theorem weight_nil : weight [] = 0 := by rw [weight]
theorem weight_cons (x : Nd) (r : List Nd) : weight (x :: r) = 1 + x.attrs.length + weight x.kids + weight r := by cases x; rw [weight]; rfl
theorem all_eq (a : Int) (l : List Nd) : (seqN a l).map (·.1) = all l := by
  induction l using Nd.ind generalizing a with
  | h0 => rw [seqN_nil, all_nil]; rfl
  | h1 k n at_ t ks r ih1 ih2 =>
    rw [seqN_cons, all_cons, List.map_cons, List.map_append]
    show _ :: (List.map _ (seqN 0 ks) ++ List.map _ (seqN k r)) = _
    rw [ih1, ih2]; rfl
theorem weight_all (l : List Nd) : weight l = ((all l).map fun x => 1 + x.attrs.length).sum := by
  induction l using Nd.ind with
  | h0 => rw [weight_nil, all_nil]; rfl
  | h1 k n at_ t ks r ih1 ih2 =>
    rw [weight_cons, all_cons, List.map_cons, List.map_append, List.sum_cons, List.sum_append]
    show 1 + at_.length + weight ks + weight r = (1 + at_.length) + (((all ks).map (fun x => 1 + x.attrs.length)).sum + ((all r).map (fun x => 1 + x.attrs.length)).sum)
    rw [ih1, ih2]
    omega
theorem weight_append (a b : List Nd) : weight (a ++ b) = weight a + weight b := by
  induction a with
  | nil => rw [List.nil_append, weight_nil]; omega
  | cons x r ih => rw [List.cons_append, weight_cons, weight_cons, ih]; omega
theorem length_le_weight (l : List Nd) : l.length ≤ weight l := by
  induction l with
  | nil => simp
  | cons x r ih => rw [weight_cons, List.length_cons]; omega
theorem all_len (l : List Nd) : (all l).length ≤ weight l := by
  induction l using Nd.ind with
  | h0 => rw [weight_nil, all_nil]; simp
  | h1 k n at_ t ks r ih1 ih2 =>
    rw [weight_cons, all_cons, List.length_cons, List.length_append]
    show (all ks).length + (all r).length + 1 ≤ 1 + at_.length + weight ks + weight r
    omega
theorem weight_pos (x : Nd) (r : List Nd) : 1 + x.attrs.length + weight x.kids ≤ weight (x :: r) := by rw [weight_cons]; omega

/-! ### May by the row of all -/
def firstE : List (Nd × Int) → Int
  | [] => 0
  | p :: r => if oneE p.1 (p.2 == 2) ≠ 0 then oneE p.1 (p.2 == 2) else firstE r
theorem firstE_append (a b : List (Nd × Int)) : firstE (a ++ b) = if firstE a ≠ 0 then firstE a else firstE b := by
  induction a with
  | nil => simp [firstE]
  | cons p r ih =>
    rw [List.cons_append, firstE, firstE, ih]
    split <;> simp_all
theorem may_eq (a : Int) (l : List Nd) : firstE (seqN a l) = mayE (a == 2) l := by
  induction l using Nd.ind generalizing a with
  | h0 => rw [seqN_nil, mayE_nil]; rfl
  | h1 k n at_ t ks r ih1 ih2 =>
    rw [seqN_cons, mayE_cons, firstE, firstE_append]
    show (if oneE _ (a == 2) ≠ 0 then _ else if firstE (seqN 0 ks) ≠ 0 then firstE (seqN 0 ks) else firstE (seqN k r)) = _
    rw [ih1, ih2]
    rfl

/-! ### The same -/
def sameA : List Att → List Att → Bool
  | [], [] => true
  | a :: r, b :: s => eqB a.name b.name && eqB a.value b.value && sameA r s
  | _, _ => false
def sameN : List Nd → List Nd → Bool
  | [], [] => true
  | .mk k n a t ks :: r, y :: s => k == y.kind && eqB n y.name && eqB t y.text && sameA a y.attrs && sameN ks y.kids && sameN r s
  | _, _ => false
termination_by l _ => SizeOf.sizeOf l
theorem sameN_nil : sameN [] [] = true := by rw [sameN]
theorem sameN_cons (x y : Nd) (r s : List Nd) : sameN (x :: r) (y :: s) = (x.kind == y.kind && eqB x.name y.name && eqB x.text y.text && sameA x.attrs y.attrs && sameN x.kids y.kids && sameN r s) := by
  cases x; rw [sameN]; rfl
theorem sameN_len : ∀ (a b : List Nd), a.length ≠ b.length → sameN a b = false := by
  intro a
  induction a with
  | nil => intro b h; cases b with | nil => simp at h | cons y s => rw [sameN] <;> simp
  | cons x r ih =>
    intro b h
    cases b with
    | nil => rw [sameN] <;> simp
    | cons y s => rw [sameN_cons, ih s (by simpa using h), Bool.and_false]
theorem sameA_len : ∀ (a b : List Att), a.length ≠ b.length → sameA a b = false := by
  intro a
  induction a with
  | nil => intro b h; cases b with | nil => simp at h | cons y s => rfl
  | cons x r ih =>
    intro b h
    cases b with
    | nil => rfl
    | cons y s => rw [sameA, ih s (by simpa using h), Bool.and_false]
theorem sameA_self (a : List Att) : sameA a a = true := by
  induction a with
  | nil => rfl
  | cons x r ih => rw [sameA, ih, eqB_self, eqB_self]; rfl
theorem sameN_self (a : List Nd) : sameN a a = true := by
  induction a using Nd.ind with
  | h0 => exact sameN_nil
  | h1 k n at_ t ks r ih1 ih2 =>
    rw [sameN_cons, eqB_self, eqB_self, sameA_self, ih2]
    show (k == k && true && true && true && sameN ks ks && true) = true
    rw [ih1]; simp

/-! ### Merged -/
def filled (l : List Nd) : List Nd := l.filter fun x => !(x.kind == 2 && nilB x.text)
def withText (x : Nd) (t : ByteArray) : Nd := .mk x.kind x.name x.attrs t x.kids
def cat (s t : ByteArray) : ByteArray := ⟨(s.data.toList ++ t.data.toList).toArray⟩
/-- One node more behind nodes that are merged: the document's own way. -/
def push (out : List Nd) (x : Nd) : List Nd :=
  if x.kind = 2 ∧ nilB x.text = true then out
  else match out.getLast? with
    | some y => if x.kind = 2 ∧ y.kind = 2 then out.dropLast ++ [withText y (cat y.text x.text)] else out ++ [x]
    | none => out ++ [x]
def merge (l : List Nd) : List Nd := l.foldl push []

/-- An attribute's value. -/
def valueOf (name : ByteArray) : List Att → Option ByteArray
  | [] => none
  | a :: r => if eqB a.name name then some a.value else valueOf name r
theorem valueOf_drop (name : ByteArray) (l : List Att) (i : Nat) (h : i < l.length) : valueOf name (l.drop i) = if eqB l[i].name name then some l[i].value else valueOf name (l.drop (i + 1)) := by
  rw [List.drop_eq_getElem_cons h, valueOf]

/-! ### Few of any -/
def few (s : ByteArray) : ByteArray := if 30 < s.size then s.extract 0 30 else s
def fewA (a : Att) : Att := ⟨few a.name, few a.value⟩
def cut : List Nd → Nat → List Nd × Nat
  | [], m => ([], m)
  | _ :: _, 0 => ([], 0)
  | .mk k n a t ks :: r, m + 1 => (.mk k (few n) ((a.take 5).map fewA) (few t) (cut ks m).1 :: (cut r (cut ks m).2).1, (cut r (cut ks m).2).2)
termination_by l _ => SizeOf.sizeOf l
theorem cut_nil (m : Nat) : cut [] m = ([], m) := by rw [cut]
theorem cut_zero (l : List Nd) : cut l 0 = ([], 0) := by cases l <;> rw [cut]
theorem cut_cons (x : Nd) (r : List Nd) (m : Nat) : cut (x :: r) (m + 1) = (.mk x.kind (few x.name) ((x.attrs.take 5).map fewA) (few x.text) (cut x.kids m).1 :: (cut r (cut x.kids m).2).1, (cut r (cut x.kids m).2).2) := by
  cases x; rw [cut]; rfl
theorem cut_le (l : List Nd) (m : Nat) : (cut l m).2 ≤ m := by
  induction l using Nd.ind generalizing m with
  | h0 => rw [cut_nil]; exact Nat.le_refl _
  | h1 k n a t ks r ih1 ih2 =>
    cases m with
    | zero => rw [cut_zero]; exact Nat.le_refl _
    | succ m =>
      rw [cut_cons]
      exact Nat.le_trans (ih2 _) (Nat.le_succ_of_le (ih1 m))
end M3
end Go.Proofs.Yteefodibpjgicaa

/- Documents' trees in memory: rows of more cells an element, attributes, nodes; read alone ('RepN S': all that is read lies in blocks of S), and made by the call ('Own': each row a block of its own, none met twice). -/
namespace Go.Proofs.Yteefodibpjgicaa
open Go.RowKit

def cellsA (l : List Att) : List Value := l.flatMap fun a => [.string a.name, .string a.value]
theorem cellsA_len (l : List Att) : (cellsA l).length = l.length * 2 := by
  induction l with
  | nil => rfl
  | cons a r ih => simp only [cellsA, List.flatMap_cons, List.length_append, List.length_cons, List.length_nil] at ih ⊢; omega
theorem cellsA_append (a b : List Att) : cellsA (a ++ b) = cellsA a ++ cellsA b := by simp [cellsA]
theorem cellsA_cons (a : Att) (l : List Att) : cellsA (a :: l) = .string a.name :: .string a.value :: cellsA l := rfl
theorem cellsA_one (l : List Att) : ∀ u ∈ cellsA l, u.oneCell' = true := by
  intro u hu
  obtain ⟨a, _, h⟩ := List.mem_flatMap.1 hu
  simp at h
  rcases h with rfl | rfl <;> rfl
theorem cellsA_at (l : List Att) (i : Nat) (h : i < l.length) : (cellsA l)[i * 2]? = some (.string l[i].name) ∧ (cellsA l)[i * 2 + 1]? = some (.string l[i].value) := by
  induction l generalizing i with
  | nil => simp at h
  | cons a r ih =>
    cases i with
    | zero => simp [cellsA_cons]
    | succ i =>
      have := ih i (by simpa using h)
      rw [cellsA_cons, show (i + 1) * 2 = i * 2 + 1 + 1 by omega]
      simpa using this

/-- The slice v of n elements of k cells reads in w ats xs, in a block of S. -/
def Row (S : Nat → Prop) (w : World) (k : Nat) (v : Value) (n : Nat) (xs : List Value) : Prop :=
  xs.length = n * k ∧ ∃ (a : Option Addr) (cap : Nat), v = .slice a n cap ∧ n ≤ cap ∧ cap ≤ 9223372036854775807 ∧ (a = none → cap = 0) ∧
    (0 < n → ∃ b off, a = some ⟨b, off, none⟩ ∧ S b ∧ ∀ j u, xs[j]? = some u → w.cell? ⟨b, off + j, none⟩ = some u)

theorem Row.nil (S : Nat → Prop) (w : World) (k : Nat) : Row S w k (.slice none 0 0) 0 [] := ⟨by simp, none, 0, rfl, Nat.le_refl _, by omega, fun _ => rfl, fun h => absurd h (by omega)⟩
theorem Row.keep {S : Nat → Prop} {w w' : World} {k n : Nat} {v : Value} {xs : List Value} (h : Row S w k v n xs) (hk : ∀ b, S b → w'.heap[b]? = w.heap[b]?) : Row S w' k v n xs := by
  obtain ⟨h0, a, cap, h1, h2, h3, h4, h5⟩ := h
  refine ⟨h0, a, cap, h1, h2, h3, h4, fun hn => ?_⟩
  obtain ⟨b, off, h6, h7, h8⟩ := h5 hn
  exact ⟨b, off, h6, h7, fun j u hu => (World.cell?_of_block (a := ⟨b, off + j, none⟩) (hk b h7)).trans (h8 j u hu)⟩
theorem Row.mono {S S' : Nat → Prop} {w : World} {k n : Nat} {v : Value} {xs : List Value} (h : Row S w k v n xs) (hs : ∀ b, S b → S' b) : Row S' w k v n xs := by
  obtain ⟨h0, a, cap, h1, h2, h3, h4, h5⟩ := h
  refine ⟨h0, a, cap, h1, h2, h3, h4, fun hn => ?_⟩
  obtain ⟨b, off, h6, h7, h8⟩ := h5 hn
  exact ⟨b, off, h6, hs b h7, h8⟩
theorem Row.slice {S : Nat → Prop} {w : World} {k n : Nat} {v : Value} {xs : List Value} (h : Row S w k v n xs) : ∃ a cap, v = .slice a n cap := by
  obtain ⟨_, a, cap, h1, _⟩ := h
  exact ⟨a, cap, h1⟩
theorem Row.own {w : World} {B : Nat} {e : TypeId} {k n : Nat} {v : Value} {xs : List Value} (h : w.ownsRow B e k v n xs) {S : Nat → Prop} (hs : ∀ g, v.ownBlock = some g → S g) : Row S w k v n xs := by
  refine ⟨h.1, ?_⟩
  have hc := fun g hg => h.cells (g := g) hg
  rcases h.2 with ⟨rfl, rfl⟩ | ⟨g, cap, cur, rfl, _, hg, h1, h2, h3, h4⟩
  · exact ⟨none, 0, rfl, Nat.le_refl _, by omega, fun _ => rfl, fun h => absurd h (by omega)⟩
  · unfold maxLen at h2
    refine ⟨some ⟨g, 0, none⟩, cap, rfl, h1, by omega, (fun h => by cases h), fun _ => ⟨g, 0, rfl, hs g rfl, fun j u hu => ?_⟩⟩
    have h5 := hc g rfl j u hu
    rwa [add_plain'] at h5

/-- Cells that are nodes, and nodes behind a slice: read alone. -/
def RepC (S : Nat → Prop) (w : World) : List Value → List Nd → Prop
  | xs, [] => xs = []
  | xs, .mk k n ats t ks :: r => ∃ va vk zs ys, xs = .int .i64 k :: .string n :: va :: .string t :: vk :: ys ∧ Row S w 2 va ats.length (cellsA ats) ∧ Row S w 5 vk ks.length zs ∧ RepC S w zs ks ∧ RepC S w ys r
termination_by _ l => SizeOf.sizeOf l

def RepN (S : Nat → Prop) (w : World) (v : Value) (l : List Nd) : Prop := ∃ xs, Row S w 5 v l.length xs ∧ RepC S w xs l

theorem RepC.nil (S : Nat → Prop) (w : World) : RepC S w [] [] := by rw [RepC]
theorem RepC.cons_iff {S : Nat → Prop} {w : World} {xs : List Value} {k : Int} {n : ByteArray} {ats : List Att} {t : ByteArray} {ks r : List Nd} :
    RepC S w xs (.mk k n ats t ks :: r) ↔ ∃ va vk ys, xs = .int .i64 k :: .string n :: va :: .string t :: vk :: ys ∧ Row S w 2 va ats.length (cellsA ats) ∧ RepN S w vk ks ∧ RepC S w ys r := by
  rw [RepC]
  constructor
  · rintro ⟨va, vk, zs, ys, h1, h2, h3, h4, h5⟩; exact ⟨va, vk, ys, h1, h2, ⟨zs, h3, h4⟩, h5⟩
  · rintro ⟨va, vk, ys, h1, h2, ⟨zs, h3, h4⟩, h5⟩; exact ⟨va, vk, zs, ys, h1, h2, h3, h4, h5⟩
theorem RepN.nil (S : Nat → Prop) (w : World) : RepN S w (.slice none 0 0) [] := ⟨[], Row.nil S w 5, RepC.nil S w⟩

theorem RepC.keep {S : Nat → Prop} {w w' : World} (hk : ∀ b, S b → w'.heap[b]? = w.heap[b]?) : ∀ (l : List Nd) (xs : List Value), RepC S w xs l → RepC S w' xs l := by
  intro l
  induction l using Nd.ind with
  | h0 => intro xs h; rw [RepC] at h ⊢; exact h
  | h1 k n ats t ks r ih1 ih2 =>
    intro xs h
    obtain ⟨va, vk, ys, h1, h2, ⟨zs, h3, h4⟩, h5⟩ := RepC.cons_iff.1 h
    exact RepC.cons_iff.2 ⟨va, vk, ys, h1, h2.keep hk, ⟨zs, h3.keep hk, ih1 _ h4⟩, ih2 _ h5⟩
theorem RepC.mono {S S' : Nat → Prop} {w : World} (hs : ∀ b, S b → S' b) : ∀ (l : List Nd) (xs : List Value), RepC S w xs l → RepC S' w xs l := by
  intro l
  induction l using Nd.ind with
  | h0 => intro xs h; rw [RepC] at h ⊢; exact h
  | h1 k n ats t ks r ih1 ih2 =>
    intro xs h
    obtain ⟨va, vk, ys, h1, h2, ⟨zs, h3, h4⟩, h5⟩ := RepC.cons_iff.1 h
    exact RepC.cons_iff.2 ⟨va, vk, ys, h1, h2.mono hs, ⟨zs, h3.mono hs, ih1 _ h4⟩, ih2 _ h5⟩
theorem RepN.keep {S : Nat → Prop} {w w' : World} {v : Value} {l : List Nd} (h : RepN S w v l) (hk : ∀ b, S b → w'.heap[b]? = w.heap[b]?) : RepN S w' v l := by
  obtain ⟨xs, h1, h2⟩ := h
  exact ⟨xs, h1.keep hk, RepC.keep hk _ _ h2⟩
theorem RepN.mono {S S' : Nat → Prop} {w : World} {v : Value} {l : List Nd} (h : RepN S w v l) (hs : ∀ b, S b → S' b) : RepN S' w v l := by
  obtain ⟨xs, h1, h2⟩ := h
  exact ⟨xs, h1.mono hs, RepC.mono hs _ _ h2⟩
theorem RepC.len {S : Nat → Prop} {w : World} : ∀ (l : List Nd) (xs : List Value), RepC S w xs l → xs.length = l.length * 5 := by
  intro l
  induction l using Nd.ind with
  | h0 => intro xs h; rw [RepC] at h; subst h; rfl
  | h1 k n ats t ks r _ ih2 =>
    intro xs h
    obtain ⟨va, vk, ys, rfl, _, _, h5⟩ := RepC.cons_iff.1 h
    have := ih2 _ h5
    simp only [List.length_cons]
    omega
theorem RepC.append {S : Nat → Prop} {w : World} {m : List Nd} {ys : List Value} (h : RepC S w ys m) : ∀ (l : List Nd) (xs : List Value), RepC S w xs l → RepC S w (xs ++ ys) (l ++ m) := by
  intro l
  induction l using Nd.ind with
  | h0 => intro xs h'; rw [RepC] at h'; subst h'; exact h
  | h1 k n ats t ks r _ ih2 =>
    intro xs h'
    obtain ⟨va, vk, zs, rfl, h2, h3, h5⟩ := RepC.cons_iff.1 h'
    exact RepC.cons_iff.2 ⟨va, vk, zs ++ ys, rfl, h2, h3, ih2 _ h5⟩
theorem RepC.drop {S : Nat → Prop} {w : World} : ∀ (l : List Nd) (xs : List Value) (i : Nat), RepC S w xs l → RepC S w (xs.drop (i * 5)) (l.drop i) := by
  intro l
  induction l using Nd.ind with
  | h0 => intro xs i h; rw [RepC] at h; subst h; simp [RepC.nil]
  | h1 k n ats t ks r _ ih2 =>
    intro xs i h
    cases i with
    | zero => simpa using h
    | succ i =>
      obtain ⟨va, vk, ys, rfl, _, _, h5⟩ := RepC.cons_iff.1 h
      rw [show (i + 1) * 5 = i * 5 + 1 + 1 + 1 + 1 + 1 by omega]
      simpa using ih2 ys i h5
theorem RepC.take {S : Nat → Prop} {w : World} : ∀ (l : List Nd) (xs : List Value) (i : Nat), RepC S w xs l → RepC S w (xs.take (i * 5)) (l.take i) := by
  intro l
  induction l using Nd.ind with
  | h0 => intro xs i h; rw [RepC] at h; subst h; simp [RepC.nil]
  | h1 k n ats t ks r _ ih2 =>
    intro xs i h
    cases i with
    | zero => simp [RepC.nil]
    | succ i =>
      obtain ⟨va, vk, ys, rfl, h2, h3, h5⟩ := RepC.cons_iff.1 h
      rw [show (i + 1) * 5 = i * 5 + 1 + 1 + 1 + 1 + 1 by omega]
      simp only [List.take_succ_cons]
      exact RepC.cons_iff.2 ⟨va, vk, _, rfl, h2, h3, ih2 ys i h5⟩

/-- A node's five cells, by themselves: of a parameter, of a variable. -/
structure RepV (S : Nat → Prop) (w : World) (x : Nd) (va vk : Value) : Prop where
  at_ : Row S w 2 va x.attrs.length (cellsA x.attrs)
  kids : RepN S w vk x.kids
theorem RepV.keep {S : Nat → Prop} {w w' : World} {x : Nd} {va vk : Value} (h : RepV S w x va vk) (hk : ∀ b, S b → w'.heap[b]? = w.heap[b]?) : RepV S w' x va vk := ⟨h.1.keep hk, h.2.keep hk⟩
theorem RepV.mono {S S' : Nat → Prop} {w : World} {x : Nd} {va vk : Value} (h : RepV S w x va vk) (hs : ∀ b, S b → S' b) : RepV S' w x va vk := ⟨h.1.mono hs, h.2.mono hs⟩
/-- A node ats a value. -/
abbrev Nd.val (x : Nd) (va vk : Value) : Value := .agg #[.int .i64 x.kind, .string x.name, va, .string x.text, vk]
abbrev Nd.cells (x : Nd) (va vk : Value) : List Value := [.int .i64 x.kind, .string x.name, va, .string x.text, vk]
theorem RepC.single {S : Nat → Prop} {w : World} {x : Nd} {va vk : Value} (h : RepV S w x va vk) : RepC S w (x.cells va vk) [x] := by
  cases x
  exact RepC.cons_iff.2 ⟨va, vk, [], rfl, h.1, h.2, RepC.nil S w⟩

/-- The element i. -/
theorem RepC.at_ {S : Nat → Prop} {w : World} {l : List Nd} {xs : List Value} (h : RepC S w xs l) (i : Nat) (hi : i < l.length) :
    ∃ va vk, xs[i * 5]? = some (.int .i64 l[i].kind) ∧ xs[i * 5 + 1]? = some (.string l[i].name) ∧ xs[i * 5 + 2]? = some va ∧ xs[i * 5 + 3]? = some (.string l[i].text) ∧ xs[i * 5 + 4]? = some vk ∧ RepV S w l[i] va vk := by
  have h1 := RepC.drop _ _ i h
  rw [List.drop_eq_getElem_cons hi, Nd.eta l[i]] at h1
  obtain ⟨va, vk, ys, h2, h3, h4, _⟩ := RepC.cons_iff.1 h1
  have h5 : ∀ j, xs[i * 5 + j]? = (xs.drop (i * 5))[j]? := fun j => by rw [List.getElem?_drop]
  refine ⟨va, vk, ?_, ?_, ?_, ?_, ?_, ⟨h3, h4⟩⟩
  · have := h5 0; rw [h2] at this; simpa using this
  · rw [h5, h2]; rfl
  · rw [h5, h2]; rfl
  · rw [h5, h2]; rfl
  · rw [h5, h2]; rfl
theorem RepN.at_ {S : Nat → Prop} {w : World} {a : Option Addr} {n cap : Nat} {l : List Nd} (h : RepN S w (.slice a n cap) l) (i : Nat) (hi : i < l.length) :
    ∃ b off va vk, a = some ⟨b, off, none⟩ ∧ S b ∧ w.cell? ⟨b, off + i * 5, none⟩ = some (.int .i64 l[i].kind) ∧ w.cell? ⟨b, off + i * 5 + 1, none⟩ = some (.string l[i].name) ∧ w.cell? ⟨b, off + i * 5 + 2, none⟩ = some va ∧
      w.cell? ⟨b, off + i * 5 + 3, none⟩ = some (.string l[i].text) ∧ w.cell? ⟨b, off + i * 5 + 4, none⟩ = some vk ∧ RepV S w l[i] va vk := by
  obtain ⟨xs, ⟨h0, a', cap', h1, h2, h3, h4, h5⟩, h6⟩ := h
  cases h1
  obtain ⟨b, off, rfl, h7, h8⟩ := h5 (by omega)
  obtain ⟨va, vk, c0, c1, c2, c3, c4, hv⟩ := h6.at_ i hi
  exact ⟨b, off, va, vk, rfl, h7, h8 _ _ c0, h8 _ _ c1, h8 _ _ c2, h8 _ _ c3, h8 _ _ c4, hv⟩
theorem RepN.len {S : Nat → Prop} {w : World} {a : Option Addr} {n cap : Nat} {l : List Nd} (h : RepN S w (.slice a n cap) l) : n = l.length ∧ n ≤ cap ∧ cap ≤ 9223372036854775807 := by
  obtain ⟨xs, ⟨h0, a', cap', h1, h2, h3, h4, h5⟩, h6⟩ := h
  cases h1
  exact ⟨rfl, h2, h3⟩
theorem RepN.slice {S : Nat → Prop} {w : World} {v : Value} {l : List Nd} (h : RepN S w v l) : ∃ a cap, v = .slice a l.length cap := by
  obtain ⟨xs, h1, h6⟩ := h
  exact h1.slice
theorem Row.atA {S : Nat → Prop} {w : World} {a : Option Addr} {n cap : Nat} {l : List Att} (h : Row S w 2 (.slice a n cap) l.length (cellsA l)) (i : Nat) (hi : i < l.length) :
    ∃ b off, a = some ⟨b, off, none⟩ ∧ S b ∧ w.cell? ⟨b, off + i * 2, none⟩ = some (.string l[i].name) ∧ w.cell? ⟨b, off + i * 2 + 1, none⟩ = some (.string l[i].value) := by
  obtain ⟨h0, a', cap', h1, h2, h3, h4, h5⟩ := h
  cases h1
  obtain ⟨b, off, rfl, h7, h8⟩ := h5 (by omega)
  obtain ⟨c0, c1⟩ := cellsA_at l i hi
  exact ⟨b, off, rfl, h7, h8 _ _ c0, h8 _ _ c1⟩
theorem Row.len {S : Nat → Prop} {w : World} {a : Option Addr} {n m k cap : Nat} {xs : List Value} (h : Row S w k (.slice a n cap) m xs) : n = m ∧ n ≤ cap ∧ cap ≤ 9223372036854775807 := by
  obtain ⟨h0, a', cap', h1, h2, h3, h4, h5⟩ := h
  cases h1
  exact ⟨rfl, h2, h3⟩

/-! ### A variable that the call has made: its block, whole -/
def Box (w : World) (g : Nat) (t : TypeId) (cs : List Value) : Prop := w.heap[g]? = some (.cells cs.toArray t (0, 0))
section
variable {w w' : World} {g : Nat} {t : TypeId} {cs : List Value}
theorem Box.new (w : World) (t : TypeId) (cs : List Value) : Box (w.alloc (.cells cs.toArray t)) w.heap.size t cs := heap_alloc_new w _
theorem Box.lt (h : Box w g t cs) : g < w.heap.size := (Array.getElem?_eq_some_iff.1 h).1
theorem Box.cell (h : Box w g t cs) {i : Nat} {v : Value} (hv : cs[i]? = some v) : w.cell? ⟨g, i, none⟩ = some v := by
  rw [cell_of_row w g i cs.toArray t (0, 0) h]
  simpa using hv
theorem Box.free (h : Box w g t cs) (i : Nat) : w.frozen? ⟨g, i, none⟩ = false := by
  unfold Box at h
  simp [World.frozen?, h]
theorem Box.keep (h : Box w g t cs) (hk : w'.heap[g]? = w.heap[g]?) : Box w' g t cs := hk.trans h
theorem Box.below {B : Nat} (h : Box w g t cs) (hb : Below B w w') (hg : g < B) : Box w' g t cs := h.keep (hb.block g hg)
theorem Box.alloc (h : Box w g t cs) (o : Obj) : Box (w.alloc o) g t cs := h.keep (Below.heap_alloc w o g h.lt)
theorem Box.far (h : Box w g t cs) {p : Addr} (hp : g ≠ p.block) (u : Value) : Box (w.setCell p u) g t cs := h.keep (Below.heap_setCell w p u g hp)
theorem Box.set (h : Box w g t cs) (i : Nat) (u : Value) : Box (w.setCell ⟨g, i, none⟩ u) g t (cs.set i u) := by
  unfold Box at h ⊢
  simp [World.setCell, Array.getElem?_modify, h]
end
end Go.Proofs.Yteefodibpjgicaa

/- Package build: strings.Builder as a field of a struct: cells 1 and 2 of the struct's block. -/
namespace Go.Proofs.Yteefodibpjgicaa
open Go.RowKit

theorem sizeB7 : (Try.prog.info? 53).map (·.size) = some 2 := by kernel_rfl
theorem infoU87 : (Try.prog.info? 5).map (fun i => (i.zero, i.size, i.bytes)) = some (some (.int .u8 0), 1, 1) := by kernel_rfl

theorem bxLen (g : Nat) (a : Option Addr) (n cap : Nat) (w : World) (h1 : w.cell? ⟨g, 2, none⟩ = some (.slice a n cap)) :
    Calls Try.prog 21 #[.pointer (some ⟨g, 1, none⟩)] w fun e w' => e = .returned (.int .i64 (n : Int)) ∧ w = w' := by
  go_enter Try.func21, Try.ntmps21
  go_wp2_with fail
  go_ret
  exact ⟨rfl, rfl⟩

theorem bxReset (g : Nat) (c0 p v c3 : Value) (w : World) (hb : Box w g 55 [c0, p, v, c3]) :
    Calls Try.prog 44 #[.pointer (some ⟨g, 1, none⟩)] w fun e w' => e = .returned (.tuple #[]) ∧ w' = (w.setCell ⟨g, 1, none⟩ (.pointer none)).setCell ⟨g, 2, none⟩ (.slice none 0 0) := by
  have k1 := hb.cell (i := 1) rfl
  have k2 := hb.cell (i := 2) rfl
  have fz := hb.free
  go_enter Try.func44, Try.ntmps44
  go_wp2_with fail
  go_end0
  exact ⟨rfl, rfl⟩

set_option maxHeartbeats 2000000 in
set_option maxRecDepth 100000 in
theorem bxCheck (g : Nat) (c0 p v c3 : Value) (w : World) (hb : Box w g 55 [c0, p, v, c3]) (hp : p = .pointer none ∨ p = .pointer (some ⟨g, 1, none⟩)) :
    Calls Try.prog 45 #[.pointer (some ⟨g, 1, none⟩)] w fun e w' => e = .returned (.tuple #[]) ∧ Box w' g 55 [c0, .pointer (some ⟨g, 1, none⟩), v, c3] ∧ (w' = w ∨ w' = w.setCell ⟨g, 1, none⟩ (.pointer (some ⟨g, 1, none⟩))) := by
  obtain ⟨j, hj, hjs⟩ := Option.map_eq_some_iff.1 sizeB7
  have k1 := hb.cell (i := 1) rfl
  have fz := hb.free
  have hsh : w.shape? g = some (55, 4) := by unfold World.shape?; rw [hb]; rfl
  have hb' := hb.set 1 (.pointer (some ⟨g, 1, none⟩))
  rcases hp with rfl | rfl
  · go_enter Try.func45, Try.ntmps45
    go_wp2
    rw [Lib.run_to_unsafe w ⟨g, 1, none⟩ Try.underlying50 Try.underlying91 hj (by rw [hjs]; decide) hsh (by show (1:Nat) < 4; omega)]
    simp only [Result.andThen]
    rw [Oper.upon_value]
    go_wp2
    rw [run_callFunc_extern Try.func47 (by kernel_rfl) (by kernel_rfl) (by kernel_rfl) (e := Extern.AbiNoEscape.same) (by kernel_rfl)]
    rw [Lib.run_noEscape]
    simp only [Result.andThen]
    rw [Oper.upon_value]
    go_wp2
    rw [Lib.run_from_unsafe w ⟨g, 1, none⟩ Try.underlying91 Try.underlying50 hj hsh (by kernel_rfl)]
    simp only [Result.andThen]
    rw [Oper.upon_value]
    go_wp2
    go_end0
    exact ⟨rfl, hb', .inr rfl⟩
  · go_enter Try.func45, Try.ntmps45
    go_wp2
    rw [Lib.run_neq_ptr_same w _ Try.underlying50 hj]
    go_wp2
    go_end0
    exact ⟨rfl, hb, .inl rfl⟩

/-- One block, and a row, may have turned; the rest stands. -/
def Turned (g : Nat) (r : Option Nat) (w w' : World) : Prop := w'.os = w.os ∧ w'.tape = w.tape ∧ w'.output = w.output ∧ w.heap.size ≤ w'.heap.size ∧ ∀ b, b < w.heap.size → b ≠ g → r ≠ some b → w'.heap[b]? = w.heap[b]?

/-- 'append(b, s...)' of a text behind a row of bytes: where the row lies then. -/
theorem wpList_appS {P : Program} {ops : Array Oper} {rest : List Oper} {o : Oper} {a : Act} {Q : Exit → Act → World → Prop} (w : World) (hgd : o.guard = none) (sl x : Operand) (t u : TypeId)
    (ho : o.op = .call { callee := .builtin .append, args := #[sl, x], argTypes := #[t, u] })
    (e : TypeId) (ht : P.underlying t = some (.slice e)) (hu : P.underlying u = some .string) (hinfo : (P.info? e).map (fun i => (i.zero, i.size, i.bytes)) = some (some (.int .u8 0), 1, 1))
    (v : Value) (n : Nat) (xs : List Value) (hs : a.eval sl = v) (hown : w.ownsRowF 0 e 1 v n xs) (s : ByteArray) (hx : a.eval x = .string s) (hbytes : n + s.size ≤ 140737488355328)
    (h : ∀ v' w', w'.ownsRowF 0 e 1 v' (n + s.size) (xs ++ Lib.strCells s) → w.grownBy w' v.ownBlock → (∀ c, v'.ownBlock = some c → v.ownBlock = some c ∨ w.heap.size ≤ c) → wpList P ops Q rest (a.put o.dst v') w') : wpList P ops Q (o :: rest) a w := by
  obtain ⟨i, hi, hz, hsize, hby⟩ := info_parts hinfo
  refine wpList_plain hgd fun K hK => ?_
  have h63 : n + s.size ≤ maxLen := by unfold maxLen; omega
  obtain ⟨v', w', hr, h2, h3, _⟩ := Lib.run_append_own_stringF (P := P) w 0 t u o.type e i ht hu hi hz hsize hby v n xs hown s h63 hbytes (Nat.zero_le _)
  have hat : ∀ c, v'.ownBlock = some c → v.ownBlock = some c ∨ w.heap.size ≤ c := by
    intro c hc
    rcases hown.2 with ⟨rfl, rfl⟩ | ⟨g, cap, cur, fz, rfl, _, hg, hfz, hnc, hcm, hcs, htake⟩
    · obtain ⟨v'', w'', hr', h2', _⟩ := Lib.run_append_own_stringF (P := P) w w.heap.size t u o.type e i ht hu hi hz hsize hby (.slice none 0 0) 0 xs ⟨hown.1, .inl ⟨rfl, rfl⟩⟩ s h63 hbytes (Nat.le_refl _)
      have e1 := hr.symm.trans hr'
      injection e1 with e1 e2
      subst e1
      exact .inr (h2'.lt c hc).1
    · by_cases hroom : n + s.size ≤ cap
      · have hr' := Lib.run_append_room_stringF (P := P) w t u o.type e i ht hu hi hsize g n cap cur fz hg (by simpa using hfz) s hroom (by omega)
        have e1 := hr.symm.trans hr'
        injection e1 with e1 e2
        subst e1
        exact .inl hc
      · have hxl : xs.length = n := by simpa using hown.1
        have holds : ∀ j u, xs[j]? = some u → w.cell? ((⟨g, 0, none⟩ : Addr).add j) = some u := hown.cells (g := g) rfl
        have hr' := Lib.run_append_grow_string (P := P) w t u o.type e i (.int .u8 0) ht hu hi hz ⟨g, 0, none⟩ n cap xs (by rw [hsize]; simpa using hxl) holds s (by omega) (by unfold maxLen at h63; omega) (by rw [hby]; exact growslice_fits (by omega) (by omega))
        have e1 := hr.symm.trans hr'
        injection e1 with e1 e2
        subst e1
        have : w.heap.size = c := by simpa [Value.ownBlock] using hc
        exact .inr (by omega)
  unfold Oper.wp execOp
  simp only [ho, resolve, invoke, builtin, Sem.run_bind, Sem.run_pure, Result.andThen_ok, List.map_toArray, List.map_cons, List.map_nil, hs, hx, hr]
  exact hK _ _ (h v' w' h2 h3 hat)

set_option maxHeartbeats 4000000 in
set_option maxRecDepth 100000 in
theorem bxWrite (g : Nat) (c0 p v c3 : Value) (tx : List UInt8) (s : ByteArray) (w : World) (hb : Box w g 55 [c0, p, v, c3]) (hp : p = .pointer none ∨ p = .pointer (some ⟨g, 1, none⟩)) (hown : w.ownsRowF 0 5 1 v tx.length (u8s tx)) (hne : v.ownBlock ≠ some g) (hlen : tx.length + s.size ≤ 140737488355328) :
    Calls Try.prog 41 #[.pointer (some ⟨g, 1, none⟩), .string s] w fun e w' => e = .returned (.tuple #[.int .i64 s.size, .nilIface]) ∧ ∃ v', Box w' g 55 [c0, .pointer (some ⟨g, 1, none⟩), v', c3] ∧ w'.ownsRowF 0 5 1 v' (tx ++ s.data.toList).length (u8s (tx ++ s.data.toList)) ∧ (∀ c, v'.ownBlock = some c → v.ownBlock = some c ∨ w.heap.size ≤ c) ∧ Turned g v.ownBlock w w' := by
  obtain ⟨i0, hi, hz0, hz1, hz2⟩ := info_parts infoU87
  have hgl := hb.lt
  obtain ⟨av, cv, rfl⟩ : ∃ a c, v = .slice a tx.length c := by
    rcases hown.2 with ⟨rfl, h0⟩ | ⟨g', cap, cur, fz, rfl, _⟩
    · exact ⟨none, 0, by rw [h0]⟩
    · exact ⟨_, _, rfl⟩
  go_enter Try.func41, Try.ntmps41
  go_wp2_with (go_at_call 45; refine (bxCheck g c0 p _ c3 _ hb hp).mono ?_)
  rintro e w1 ⟨rfl, hb1, hw1⟩
  have hT1 : w1.os = w.os ∧ w1.tape = w.tape ∧ w1.output = w.output ∧ w1.heap.size = w.heap.size ∧ ∀ b, b ≠ g → w1.heap[b]? = w.heap[b]? := by
    rcases hw1 with rfl | rfl
    · exact ⟨rfl, rfl, rfl, rfl, fun _ _ => rfl⟩
    · exact ⟨rfl, rfl, rfl, by simp, fun b hb => Below.heap_setCell _ _ _ _ hb⟩
  have hown1 : w1.ownsRowF 0 5 1 (.slice av tx.length cv) tx.length (u8s tx) := by
    refine ⟨hown.1, ?_⟩
    rcases hown.2 with h | ⟨g', cap, cur, fz, e, h1, h2, h3⟩
    · exact .inl h
    · refine .inr ⟨g', cap, cur, fz, e, h1, ?_, h3⟩
      rw [hT1.2.2.2.2 g' (fun e2 => hne (by rw [e, e2]; rfl))]
      exact h2
  clear hw1
  have k2 := hb1.cell (i := 2) rfl
  go_wp2_with (at_builtin; refine wpList_appS _ rfl _ _ 51 9 rfl 5 Try.underlying51 Try.underlying9 infoU87 _ _ _ rfl hown1 s rfl hlen ?_)
  intro v' w2 hown' hgrow hat
  have hb2 : Box w2 g 55 [c0, .pointer (some ⟨g, 1, none⟩), .slice av tx.length cv, c3] := hb1.keep (hgrow.block g hb1.lt (fun e => hne e.symm))
  have d2 := hb2.cell (i := 2) rfl
  have f1 := hb2.free
  obtain ⟨ao, n', cap, rfl⟩ : ∃ ao n' cap, v' = .slice ao n' cap := by
    rcases hown'.2 with ⟨hv, _⟩ | ⟨g, cap, cur, fz, hv, _⟩
    · exact ⟨_, _, _, hv⟩
    · exact ⟨_, _, _, hv⟩
  have hb3 := hb2.set 2 (.slice ao n' cap)
  have hgl1 := hb1.lt
  have hv' : ∀ c, (Value.slice ao n' cap).ownBlock = some c → (Value.slice av tx.length cv).ownBlock = some c ∨ w.heap.size ≤ c := fun c hc => by
    have h := hat c hc
    have e := hT1.2.2.2.1
    rcases h with h | h
    · exact .inl h
    · exact .inr (by omega)
  have hne' : (Value.slice ao n' cap).ownBlock ≠ some g := fun e => by
    rcases hv' g e with h | h
    · exact hne h
    · omega
  have hown3 : (w2.setCell ⟨g, 2, none⟩ (.slice ao n' cap)).ownsRowF 0 5 1 (.slice ao n' cap) (tx ++ s.data.toList).length (u8s (tx ++ s.data.toList)) := by
    have e1 : (tx ++ s.data.toList).length = tx.length + s.size := by rw [List.length_append]; rfl
    have e2 : u8s (tx ++ s.data.toList) = u8s tx ++ Lib.strCells s := by rw [u8s_append]; rfl
    rw [e1, e2]
    exact hown'.kept (row := some g) ⟨rfl, rfl, rfl, by simp, fun k _ hk => Below.heap_setCell _ _ _ _ (fun e => hk (by rw [e]))⟩ (Or.inr hne')
  have hT : Turned g (Value.slice av tx.length cv).ownBlock w (w2.setCell ⟨g, 2, none⟩ (.slice ao n' cap)) := by
    refine ⟨hgrow.os.trans hT1.1, hgrow.tape.trans hT1.2.1, hgrow.output.trans hT1.2.2.1, ?_, fun b hb hbg hbr => ?_⟩
    · have := hgrow.size
      simp
      rw [hT1.2.2.2.1] at this
      exact this
    · rw [Below.heap_setCell _ _ _ _ hbg, hgrow.block b (by rw [hT1.2.2.2.1]; exact hb) (fun e => hbr e.symm), hT1.2.2.2.2 b hbg]
  clear hown hown1 hown' hgrow hat hb2 hb1
  replace hown3 := Lib.hid hown3
  replace hT := Lib.hid hT
  replace hb3 := Lib.hid hb3
  replace hv' := Lib.hid hv'
  go_wp2_with fail
  go_ret2
  exact ⟨rfl, _, hb3.out, hown3.out, hv'.out, hT.out⟩

set_option maxHeartbeats 4000000 in
set_option maxRecDepth 100000 in
theorem bxString (g : Nat) (c0 p v c3 : Value) (tx : List UInt8) (w : World) (hb : Box w g 55 [c0, p, v, c3]) (hown : w.ownsRowF 0 5 1 v tx.length (u8s tx)) (hne : v.ownBlock ≠ some g) (h0 : tx ≠ []) :
    Calls Try.prog 31 #[.pointer (some ⟨g, 1, none⟩)] w fun e w' => e = .returned (.string ⟨tx.toArray⟩) ∧ Box w' g 55 [c0, p, v, c3] ∧ w'.ownsRowF 0 5 1 v tx.length (u8s tx) ∧ Turned g v.ownBlock w w' ∧ w'.heap.size = w.heap.size := by
  have hl0 : tx.length ≠ 0 := by simpa using h0
  have hown0 := hown
  obtain ⟨k, cap, cur, fz, rfl, _, hg, hfz, hnc, hcm, hcs, htake⟩ : ∃ k cap cur fz, v = .slice (some ⟨k, 0, none⟩) tx.length cap ∧ 0 ≤ k ∧ w.heap[k]? = some (.cells cur 5 fz) ∧ fz.2 ≤ tx.length * 1 ∧ tx.length ≤ cap ∧ cap ≤ maxLen ∧ cur.size = cap * 1 ∧ cur.toList.take (tx.length * 1) = u8s tx := by
    rcases hown.2 with ⟨_, hz⟩ | ⟨k, cap, cur, fz, hv, r⟩
    · exact absurd hz hl0
    · exact ⟨k, cap, cur, fz, hv, r⟩
  have k2 : w.drew.cell? ⟨g, 2, none⟩ = some (.slice (some ⟨k, 0, none⟩) tx.length cap) := hb.cell (i := 2) rfl
  have hSD : (Builtin.unsafeSliceData_ #[51] 86 #[.slice (some ⟨k, 0, none⟩) tx.length cap]).run Try.prog w.drew = .ok (.pointer (some ⟨k, 0, none⟩)) w.drew :=
    Lib.run_unsafeSliceData_row _ _ _ _ _ _ (by omega)
  have hUS : (Builtin.unsafeString_ #[86, 3] 9 #[.pointer (some ⟨k, 0, none⟩), .int .i64 tx.length]).run Try.prog w.drew = .ok (.string ⟨tx.toArray⟩) (w.drew.freeze ⟨k, 0, none⟩ tx.length) := by
    refine Lib.run_unsafeString_row w.drew 86 3 9 5 Try.underlying86 (by kernel_rfl) k cur.size (by have hg' : w.drew.heap[k]? = some (.cells cur 5 fz) := hg; simp [World.shape?, hg']) tx h0 (by omega) (by unfold maxLen at hcm; omega) ?_
    intro j x hx
    have := hown.cells (g := k) rfl j (.int .u8 x.toNat) (by simp [u8s, Lib.byteCells, hx])
    exact this
  have hkg : k ≠ g := fun e => hne (by rw [e]; rfl)
  have hfr : ∀ b, b ≠ k → (w.drew.freeze ⟨k, 0, none⟩ tx.length).heap[b]? = w.heap[b]? := fun b hb => by
    have := (Lib.below_freeze (B := k) (Below.refl k w.drew) (p := ⟨k, 0, none⟩) (Nat.le_refl _) tx.length)
    unfold World.freeze
    split
    · rfl
    · simp only [Array.getElem?_modify]
      rw [if_neg (fun e => hb e.symm)]
      rfl
  have hsz : (w.drew.freeze ⟨k, 0, none⟩ tx.length).heap.size = w.heap.size := by
    unfold World.freeze
    split
    · rfl
    · simp
  have hkk : ∃ fz', (w.drew.freeze ⟨k, 0, none⟩ tx.length).heap[k]? = some (.cells cur 5 fz') ∧ fz'.2 ≤ tx.length * 1 := by
    have hg' : w.drew.heap[k]? = some (.cells cur 5 fz) := hg
    unfold World.freeze
    split
    · exact ⟨fz, hg', hfz⟩
    · simp only [Array.getElem?_modify, if_true, hg', Option.map_some]
      refine ⟨_, rfl, ?_⟩
      obtain ⟨lo, hi⟩ := fz
      simp only at hfz ⊢
      split
      · simp
      · simp; omega
  obtain ⟨fz', hk', hfz'⟩ := hkk
  have hB : Hid (Box (w.drew.freeze ⟨k, 0, none⟩ tx.length) g 55 [c0, p, .slice (some ⟨k, 0, none⟩) tx.length cap, c3]) := hb.keep (hfr g (fun e => hkg e.symm))
  have hO : Hid ((w.drew.freeze ⟨k, 0, none⟩ tx.length).ownsRowF 0 5 1 (.slice (some ⟨k, 0, none⟩) tx.length cap) tx.length (u8s tx)) := ⟨hown.1, .inr ⟨k, cap, cur, fz', rfl, Nat.zero_le _, hk', hfz', hnc, hcm, hcs, htake⟩⟩
  have hT : Hid (Turned g (Value.slice (some ⟨k, 0, none⟩) tx.length cap).ownBlock w (w.drew.freeze ⟨k, 0, none⟩ tx.length)) := by
    have hb := Lib.below_freeze (B := 0) (Below.drew (Below.refl 0 w)) (p := ⟨k, 0, none⟩) (Nat.zero_le _) tx.length
    exact ⟨hb.os, hb.tape, hb.output, hb.size, fun b _ _ hr => hfr b (fun e => hr (by rw [e]; rfl))⟩
  replace hsz := Lib.hid hsz
  clear hfr hk' hown hown0
  have mixed : Try.prog.follows Departure.mixedOrders = true := by kernel_rfl
  go_enter Try.func31, Try.ntmps31
  go_wp2
  go_region_o
  all_goals (go_wp2; go_ret; exact ⟨rfl, hB.out, hO.out, hT.out, hsz.out⟩)
end Go.Proofs.Yteefodibpjgicaa

/- Layer 3 by plain definitions: merged two ways, merged twice, and which merged nodes may be; nodes that may be, made of any. No program in it. -/
namespace Go.Proofs.Yteefodibpjgicaa
namespace M3

theorem cat_data (s t : ByteArray) : (cat s t).data.toList = s.data.toList ++ t.data.toList := by simp [cat]
theorem nilB_data' (s : ByteArray) : nilB s = s.data.toList.isEmpty := by unfold nilB; rw [ByteArray.toList_eq]
theorem nilB_cat (s t : ByteArray) : nilB (cat s t) = (nilB s && nilB t) := by
  rw [nilB_data', nilB_data', nilB_data', cat_data]
  cases s.data.toList <;> cases t.data.toList <;> rfl
theorem cat_assoc (s t u : ByteArray) : cat (cat s t) u = cat s (cat t u) := by simp [cat]
theorem cat_nil (s : ByteArray) : cat s ⟨#[]⟩ = s := by cases s; simp [cat]
theorem withText_self (x : Nd) : withText x x.text = x := by cases x; rfl
theorem withText_kind (x : Nd) (t : ByteArray) : (withText x t).kind = x.kind := by cases x; rfl
theorem withText_text (x : Nd) (t : ByteArray) : (withText x t).text = t := by cases x; rfl
theorem withText_kids (x : Nd) (t : ByteArray) : (withText x t).kids = x.kids := by cases x; rfl
theorem withText_attrs (x : Nd) (t : ByteArray) : (withText x t).attrs = x.attrs := by cases x; rfl
theorem withText_name (x : Nd) (t : ByteArray) : (withText x t).name = x.name := by cases x; rfl
theorem withText_two (x : Nd) (s t : ByteArray) : withText (withText x s) t = withText x t := by cases x; rfl

def isText (x : Nd) : Bool := x.kind == 2
def bareB (x : Nd) : Bool := isText x && nilB x.text
theorem bareB_iff {x : Nd} : bareB x = true ↔ x.kind = 2 ∧ nilB x.text = true := by simp [bareB, isText]
theorem push_bare {out : List Nd} {x : Nd} (h : bareB x = true) : push out x = out := by unfold push; rw [if_pos (bareB_iff.1 h)]
theorem push_none {x : Nd} (h : bareB x = false) : push [] x = [x] := by
  unfold push
  rw [if_neg (by rw [← bareB_iff]; simp [h])]
  rfl
theorem push_snoc {out : List Nd} {x y : Nd} (h : bareB x = false) : push (out ++ [y]) x = if isText x && isText y then out ++ [withText y (cat y.text x.text)] else out ++ [y] ++ [x] := by
  unfold push
  rw [if_neg (by rw [← bareB_iff]; simp [h])]
  simp [isText]
theorem merge_nil : merge [] = [] := rfl
theorem merge_snoc (l : List Nd) (x : Nd) : merge (l ++ [x]) = push (merge l) x := by simp [merge]

/-- One text of the texts that nodes begin with. -/
def joinT : List Nd → ByteArray
  | [] => ⟨#[]⟩
  | x :: r => if isText x then cat x.text (joinT r) else ⟨#[]⟩
def runT (l : List Nd) : Nat := (l.takeWhile isText).length
theorem runT_le (l : List Nd) : runT l ≤ l.length := (List.takeWhile_prefix isText).length_le
theorem joinT_yes {x : Nd} (r : List Nd) (h : isText x = true) : joinT (x :: r) = cat x.text (joinT r) := by rw [joinT, if_pos h]
theorem joinT_no {x : Nd} (r : List Nd) (h : isText x = false) : joinT (x :: r) = ⟨#[]⟩ := by rw [joinT, if_neg (by simp [h])]
theorem runT_yes {x : Nd} (r : List Nd) (h : isText x = true) : runT (x :: r) = runT r + 1 := by simp [runT, h]
theorem runT_no {x : Nd} (r : List Nd) (h : isText x = false) : runT (x :: r) = 0 := by simp [runT, h]

/-- Texts side by side as one, from the front. -/
def front : List Nd → List Nd
  | [] => []
  | x :: r => if isText x then withText x (cat x.text (joinT r)) :: front (r.drop (runT r)) else x :: front r
termination_by l => l.length
decreasing_by
  · simp only [List.length_drop, List.length_cons]; omega
  · simp
theorem front_nil : front [] = [] := by rw [front]
theorem front_yes {x : Nd} (r : List Nd) (h : isText x = true) : front (x :: r) = withText x (joinT (x :: r)) :: front ((x :: r).drop (runT (x :: r))) := by
  rw [front, if_pos h, joinT_yes r h, runT_yes r h]
  rfl
theorem front_no {x : Nd} (r : List Nd) (h : isText x = false) : front (x :: r) = x :: front r := by rw [front, if_neg (by simp [h])]

theorem filled_nil : filled [] = [] := rfl
theorem filled_cons (x : Nd) (l : List Nd) : filled (x :: l) = if bareB x then filled l else x :: filled l := by
  unfold filled
  rw [List.filter_cons]
  show (if (!(bareB x)) = true then _ else _) = _
  cases bareB x <;> rfl
theorem filled_append (a b : List Nd) : filled (a ++ b) = filled a ++ filled b := by simp [filled]
theorem filled_snoc (l : List Nd) (x : Nd) : filled (l ++ [x]) = if bareB x then filled l else filled l ++ [x] := by
  rw [filled_append, filled_cons, filled_nil]
  cases bareB x <;> simp
theorem filled_all (l : List Nd) : ∀ x ∈ filled l, bareB x = false := by
  intro x hx
  have := (List.mem_filter.1 hx).2
  show bareB x = false
  change (!(bareB x)) = true at this
  simpa using this
theorem filled_mem {l : List Nd} {x : Nd} (h : x ∈ filled l) : x ∈ l := (List.mem_filter.1 h).1
theorem foldl_filled (l : List Nd) : ∀ out, l.foldl push out = (filled l).foldl push out := by
  induction l with
  | nil => intro out; rfl
  | cons x r ih =>
    intro out
    rw [filled_cons, List.foldl_cons]
    cases h : bareB x
    · simp only [Bool.false_eq_true, if_false, List.foldl_cons]; exact ih _
    · rw [push_bare h, if_pos rfl]; exact ih _

/-- From the front and from behind are one. -/
theorem fold_texts (l : List Nd) : ∀ (out : List Nd) (y : Nd), (∀ x ∈ l, bareB x = false) → isText y = true → l.foldl push (out ++ [y]) = (l.drop (runT l)).foldl push (out ++ [withText y (cat y.text (joinT l))]) := by
  induction l with
  | nil => intro out y _ _; rw [joinT, cat_nil, withText_self]; rfl
  | cons x r ih =>
    intro out y hb hy
    have hx := hb x (by simp)
    cases ht : isText x
    · rw [joinT_no r ht, runT_no r ht, cat_nil, withText_self]; rfl
    · rw [List.foldl_cons, push_snoc hx, ht, hy, Bool.and_true, if_pos rfl, ih _ _ (fun z hz => hb z (by simp [hz])) (by rw [isText, withText_kind]; exact hy), joinT_yes r ht, runT_yes r ht, withText_text, withText_two, cat_assoc]
      rfl
theorem drop_run_head (l : List Nd) : ∀ x, (l.drop (runT l)).head? = some x → isText x = false := by
  induction l with
  | nil => intro x h; simp at h
  | cons y r ih =>
    intro x h
    cases ht : isText y
    · rw [runT_no r ht] at h; simp at h; subst h; exact ht
    · rw [runT_yes r ht] at h; exact ih x (by simpa using h)
theorem fold_front (n : Nat) : ∀ (l out : List Nd), l.length ≤ n → (∀ x ∈ l, bareB x = false) → (∀ y x, out.getLast? = some y → l.head? = some x → (isText x && isText y) = false) → l.foldl push out = out ++ front l := by
  induction n with
  | zero => intro l out hl _ _; obtain rfl : l = [] := List.eq_nil_of_length_eq_zero (by omega); rw [front_nil]; simp
  | succ n ih =>
    intro l out hl hb hj
    cases l with
    | nil => rw [front_nil]; simp
    | cons x r =>
      have hx := hb x (by simp)
      have hp : push out x = out ++ [x] := by
        rcases List.eq_nil_or_concat out with rfl | ⟨o, y, rfl⟩
        · rw [push_none hx]; rfl
        · rw [List.concat_eq_append, push_snoc hx, hj y x (by simp) rfl]; simp
      rw [List.foldl_cons, hp]
      cases ht : isText x
      · rw [front_no r ht, ih r _ (by simpa using hl) (fun z hz => hb z (by simp [hz])) (fun y z hy hz => by simp at hy; subst hy; rw [ht, Bool.and_false]), List.append_assoc]; rfl
      · rw [fold_texts r out x (fun z hz => hb z (by simp [hz])) ht, ih _ _ (by simp at hl ⊢; omega) (fun z hz => hb z (by simp [List.mem_of_mem_drop hz])) (fun y z hy hz => by rw [drop_run_head r z hz]; rfl), front_yes r ht, joinT_yes r ht, runT_yes r ht, List.append_assoc]
        rfl
theorem merge_front (l : List Nd) : merge l = front (filled l) := by
  unfold merge
  rw [foldl_filled, fold_front _ _ [] (Nat.le_refl _) (filled_all l) (fun y x hy => by simp at hy)]
  rfl

/-- No empty text, none right behind a text. -/
def apart : Bool → List Nd → Bool
  | _, [] => true
  | p, x :: r => !(isText x && (nilB x.text || p)) && apart (isText x) r
theorem apart_iff {p : Bool} {x : Nd} {r : List Nd} : apart p (x :: r) = true ↔ (isText x = true → nilB x.text = false ∧ p = false) ∧ apart (isText x) r = true := by
  rw [apart]
  cases isText x <;> cases nilB x.text <;> cases p <;> simp
theorem apart_weak {p : Bool} {l : List Nd} (h : apart p l = true) : apart false l = true := by
  cases l with
  | nil => rfl
  | cons x r => rw [apart_iff] at h ⊢; exact ⟨fun a => ⟨(h.1 a).1, rfl⟩, h.2⟩
theorem merge_apart (l : List Nd) : ∀ out : List Nd, (∀ y, out.getLast? = some y → apart (isText y) l = true) → apart false l = true → l.foldl push out = out ++ l := by
  induction l with
  | nil => intro out _ _; simp
  | cons x r ih =>
    intro out h1 h2
    rw [apart_iff] at h2
    have hx : bareB x = false := by
      rw [bareB]; cases ht : isText x
      · rfl
      · rw [(h2.1 ht).1]; rfl
    have hp : push out x = out ++ [x] := by
      rcases List.eq_nil_or_concat out with rfl | ⟨o, y, rfl⟩
      · rw [push_none hx]; rfl
      · rw [List.concat_eq_append] at h1 ⊢
        have h3 := h1 y (by simp)
        rw [apart_iff] at h3
        rw [push_snoc hx]
        have : (isText x && isText y) = false := by
          cases ht : isText x
          · rfl
          · rw [(h3.1 ht).2]; rfl
        rw [this]; simp
    rw [List.foldl_cons, hp, ih _ (fun y hy => by simp at hy; subst hy; exact h2.2) (apart_weak h2.2)]
    simp
theorem apart_front (n : Nat) : ∀ (l : List Nd) (p : Bool), l.length ≤ n → (∀ x ∈ l, bareB x = false) → (∀ x, l.head? = some x → (isText x && p) = false) → apart p (front l) = true := by
  induction n with
  | zero => intro l p hl _ _; obtain rfl : l = [] := List.eq_nil_of_length_eq_zero (by omega); rw [front_nil]; rfl
  | succ n ih =>
    intro l p hl hb hj
    cases l with
    | nil => rw [front_nil]; rfl
    | cons x r =>
      have hx := hb x (by simp)
      have hjx := hj x rfl
      cases ht : isText x
      · rw [front_no r ht, apart, ih r _ (by simpa using hl) (fun z hz => hb z (by simp [hz])) (fun z _ => by rw [ht, Bool.and_false]), ht]; rfl
      · have h1 : isText (withText x (joinT (x :: r))) = true := by rw [isText, withText_kind]; exact ht
        have h2 : nilB (joinT (x :: r)) = false := by
          rw [joinT_yes r ht, nilB_cat]
          have : nilB x.text = false := by rw [bareB, ht] at hx; simpa using hx
          rw [this]; rfl
        rw [ht, Bool.true_and] at hjx
        rw [front_yes r ht, apart, h1, withText_text, h2, hjx, ih _ _ (by rw [runT_yes r ht]; simp at hl ⊢; omega) (fun z hz => hb z (List.mem_of_mem_drop hz)) (fun z hz => by rw [drop_run_head (x :: r) z hz]; rfl)]
        rfl
theorem merge_apart' (l : List Nd) : apart false (merge l) = true := by
  rw [merge_front]
  exact apart_front _ _ _ (Nat.le_refl _) (filled_all l) (fun x _ => Bool.and_false _)
theorem merge_merge (l : List Nd) : merge (merge l) = merge l := by
  have h := merge_apart (merge l) [] (fun y hy => by simp at hy) (merge_apart' l)
  simpa [merge] using h

/-- What all of nodes keep, if merging does. -/
theorem merge_all {P : Nd → Prop} (hP : ∀ x y, P x → P y → isText x = true → isText y = true → P (withText x (cat x.text y.text))) (l : List Nd) (h : ∀ x ∈ l, P x) : ∀ x ∈ merge l, P x := by
  have key : ∀ (l out : List Nd), (∀ x ∈ l, P x) → (∀ x ∈ out, P x) → ∀ x ∈ l.foldl push out, P x := by
    intro l
    induction l with
    | nil => intro out _ ho; exact ho
    | cons x r ih =>
      intro out hl ho
      rw [List.foldl_cons]
      refine ih _ (fun z hz => hl z (by simp [hz])) ?_
      have hx := hl x (by simp)
      cases hb : bareB x
      · rcases List.eq_nil_or_concat out with rfl | ⟨o, y, rfl⟩
        · rw [push_none hb]; simpa using hx
        · rw [List.concat_eq_append] at ho ⊢
          rw [push_snoc hb]
          split
          · rename_i hc
            simp at hc
            intro z hz
            rcases List.mem_append.1 hz with hz | hz
            · exact ho z (by simp [hz])
            · simp at hz; subst hz
              exact hP y x (ho y (by simp)) hx hc.2 hc.1
          · intro z hz
            rcases List.mem_append.1 hz with hz | hz
            · exact ho z hz
            · simp at hz; subst hz; exact hx
      · rw [push_bare hb]; exact ho
  exact key l [] h (fun x hx => by cases hx)

/-- A node that may be anywhere but for its being an empty text, or behind a text. -/
def okP (x : Nd) : Prop := if isText x then plainB x = true ∧ M1.isB x.text.data.toList = true else oneE x false = 0 ∧ mayE false x.kids = 0
theorem plain_kids {x : Nd} (h : plainB x = true) : x.kids = [] := by simp [plainB] at h; exact h.2
theorem may_of_ok (l : List Nd) : ∀ p, (∀ x ∈ l, okP x) → apart p l = true → mayE p l = 0 := by
  induction l with
  | nil => intro p _ _; exact mayE_nil p
  | cons x r ih =>
    intro p h hap
    have hx := h x (by simp)
    rw [apart_iff] at hap
    rw [mayE_cons]
    unfold okP at hx
    cases ht : isText x
    · rw [ht] at hx
      simp only [Bool.false_eq_true, if_false] at hx
      have h1 : oneE x p = oneE x false := by
        have : ¬ x.kind = 2 := by simpa [isText] using ht
        unfold oneE
        rw [if_neg this, if_neg this]
      have h2 : (x.kind == 2) = false := ht
      rw [h1, hx.1, hx.2, h2]
      simp only [ne_eq, not_true_eq_false, if_false]
      exact ih false (fun z hz => h z (by simp [hz])) (by have h := hap.2; rwa [ht] at h)
    · rw [ht, if_pos rfl] at hx
      have hk : x.kind = 2 := by simpa [isText] using ht
      have h1 : oneE x p = 0 := by
        unfold oneE
        rw [if_neg (by omega), if_pos hk, if_pos hx.1, hx.2, (hap.1 ht).1, (hap.1 ht).2]
        rfl
      rw [h1, plain_kids hx.1, mayE_nil]
      have h2 : (x.kind == 2) = true := ht
      rw [h2]
      simp only [ne_eq, not_true_eq_false, if_false]
      exact ih true (fun z hz => h z (by simp [hz])) (by have h := hap.2; rwa [ht] at h)
theorem isB_append {a b : List UInt8} (ha : M1.isB a = true) (hb : M1.isB b = true) : M1.isB (a ++ b) = true := by
  rw [← (M1.isB_right_iff a).1 ha, ← (M1.isB_right_iff b).1 hb]
  exact M1.isB_join a b
theorem okP_cat (x y : Nd) (hx : okP x) (hy : okP y) (h1 : isText x = true) (h2 : isText y = true) : okP (withText x (cat x.text y.text)) := by
  have ht : isText (withText x (cat x.text y.text)) = true := by rw [isText, withText_kind]; exact h1
  unfold okP at *
  rw [h1, if_pos rfl] at hx
  rw [h2, if_pos rfl] at hy
  rw [ht, if_pos rfl]
  refine ⟨?_, ?_⟩
  · have := hx.1; cases x; exact this
  · rw [withText_text, cat_data]; exact isB_append hx.2 hy.2
theorem may_merge (l : List Nd) (h : ∀ x ∈ l, okP x) : mayE false (merge l) = 0 := may_of_ok _ _ (merge_all okP_cat l h) (merge_apart' l)
end M3
end Go.Proofs.Yteefodibpjgicaa

/- Plain facts on character references: what one stands for, texts decoded, texts written. No program in it. -/
namespace Go.Proofs.Yteefodibpjgicaa
namespace M2
open M1

/-- The names, and their characters. -/
def tbl : List (List UInt8 × Nat) :=
  [([97, 109, 112], 38), ([108, 116], 60), ([103, 116], 62), ([113, 117, 111, 116], 34), ([97, 112, 111, 115], 39), ([110, 98, 115, 112], 160), ([99, 111, 112, 121], 169), ([114, 101, 103], 174), ([100, 101, 103], 176),
   ([109, 105, 100, 100, 111, 116], 183), ([116, 105, 109, 101, 115], 215), ([110, 100, 97, 115, 104], 8211), ([109, 100, 97, 115, 104], 8212), ([104, 101, 108, 108, 105, 112], 8230), ([101, 117, 114, 111], 8364)]
def nm (s : List UInt8) : Option Nat := (tbl.find? (fun p => p.1 == s)).map (·.2)

theorem nm_mem {s : List UInt8} {n : Nat} (h : nm s = some n) : (s, n) ∈ tbl := by
  unfold nm at h
  obtain ⟨p, h1, h2⟩ := Option.map_eq_some_iff.1 h
  have h3 := List.mem_of_find?_eq_some h1
  have h4 := List.find?_some h1
  have h5 : p.1 = s := by simpa using h4
  rw [← h5, ← h2]
  exact h3
theorem nm_none {s : List UInt8} (h : ∀ p ∈ tbl, p.1 ≠ s) : nm s = none := by
  unfold nm
  rw [List.find?_eq_none.2 (fun p hp => by simpa using h p hp)]
  rfl
theorem tbl_facts : ∀ p ∈ tbl, p.1.length ≤ 6 ∧ 1 ≤ p.1.length ∧ (∀ c ∈ p.1, c.toNat < 128 ∧ c.toNat ≠ 59) ∧ p.1.head? ≠ some 35 ∧ okRune p.2 ∧ p.2 ≠ 0 ∧ p.2 ≠ 13 := by decide
theorem tbl_apart : tbl.Pairwise (fun p q => p.1 ≠ q.1) := by decide
theorem nm_of_mem {p : List UInt8 × Nat} (h : p ∈ tbl) : nm p.1 = some p.2 := by
  revert p
  decide

/-- What a digit of sixteen counts. -/
def digZ (r : Int) : Int := if 48 ≤ r ∧ r ≤ 57 then r - 48 else if 97 ≤ r ∧ r ≤ 102 then r - 97 + 10 else if 65 ≤ r ∧ r ≤ 70 then r - 65 + 10 else -1
theorem digZ_bd (r : Int) : -1 ≤ digZ r ∧ digZ r ≤ 15 := by
  unfold digZ
  repeat' split
  all_goals omega
theorem digZ_big (r : Int) (h : 128 ≤ r) : digZ r = -1 := by
  unfold digZ
  repeat' split
  all_goals omega
def isD (b : Nat) (c : UInt8) : Bool := decide (0 ≤ digZ c.toNat ∧ digZ c.toNat < b)
theorem isD_59 (b : Nat) : isD b 59 = false := by
  have : digZ ((59 : UInt8).toNat : Int) = -1 := by decide
  unfold isD
  rw [this]
  simp
theorem isD_ascii {b : Nat} {c : UInt8} (h : isD b c = true) : c.toNat < 128 := by
  unfold isD at h
  rcases Nat.lt_or_ge c.toNat 128 with h1 | h1
  · exact h1
  · rw [digZ_big _ (by omega)] at h
    simp at h

theorem isD_no {b : Nat} {c : UInt8} (h : isD b c = false) : digZ c.toNat < 0 ∨ (b : Int) ≤ digZ c.toNat := by
  unfold isD at h
  have := of_decide_eq_false h
  omega
theorem dec_lo (c : UInt8) (t : List UInt8) (h : c.toNat < 128) : dec (c :: t) = (c.toNat, 1) := by
  simp only [dec, List.getD_cons_zero]
  rw [if_pos h]
theorem dec_hi (c : UInt8) (t : List UInt8) (h : 128 ≤ c.toNat) : 128 ≤ (dec (c :: t)).1 := by
  rcases dec_cases (c :: t) (by simp) with ⟨h1, h2, _⟩ | ⟨h1, _⟩
  · rcases Nat.lt_or_ge (dec (c :: t)).1 128 with h3 | h3
    · exfalso
      obtain ⟨a, u, h4, h5, _⟩ := enc_head _ h1
      rw [h4] at h2
      have h6 : c = a := by simp at h2; exact h2.1
      have := h5 h3
      rw [← h6] at this
      omega
    · exact h3
  · rw [h1]; decide

def val (b : Nat) : List UInt8 → Int
  | [] => 0
  | c :: t => digZ c.toNat * (b : Int) ^ t.length + val b t
theorem val_snoc (b : Nat) (l : List UInt8) (c : UInt8) : val b (l ++ [c]) = val b l * b + digZ c.toNat := by
  induction l with
  | nil => simp [val]
  | cons d t ih =>
    rw [List.cons_append, val, val, ih, List.length_append, List.length_singleton, Int.pow_succ, Int.add_mul, ← Int.mul_assoc]
    omega
theorem val_bd (b : Nat) (l : List UInt8) (h : ∀ c ∈ l, isD b c = true) : 0 ≤ val b l ∧ val b l < (b : Int) ^ l.length := by
  induction l with
  | nil => simp [val]
  | cons d t ih =>
    have ih := ih (fun c hc => h c (by simp [hc]))
    have hd := h d (by simp)
    unfold isD at hd
    have hd := of_decide_eq_true hd
    rw [val, List.length_cons, Int.pow_succ]
    have h1 : digZ d.toNat + 1 ≤ b := by omega
    have h2 : (digZ d.toNat + 1) * (b : Int) ^ t.length ≤ b * (b : Int) ^ t.length := Int.mul_le_mul_of_nonneg_right h1 (by omega)
    have h3 : 0 ≤ digZ d.toNat * (b : Int) ^ t.length := Int.mul_nonneg hd.1 (by omega)
    rw [Int.add_mul, Int.one_mul] at h2
    rw [Int.mul_comm ((b : Int) ^ t.length) b]
    omega

/-- The digits at the beginning, at most m of them. -/
def digs (b m : Nat) (l : List UInt8) : List UInt8 := (l.takeWhile (isD b)).take m
theorem digs_all (b m : Nat) (l : List UInt8) : ∀ c ∈ digs b m l, isD b c = true := fun c hc => by
  have h1 := List.mem_of_mem_take hc
  have h2 : l.takeWhile (isD b) = l.takeWhile (isD b) := rfl
  exact (List.all_eq_true.1 (List.all_takeWhile (l := l) (p := isD b))) c h1
theorem digs_len (b m : Nat) (l : List UInt8) : (digs b m l).length ≤ m ∧ (digs b m l).length ≤ l.length := by
  unfold digs
  rw [List.length_take]
  have := (List.takeWhile_sublist (l := l) (isD b)).length_le
  omega
theorem digs_of (b m : Nat) (l : List UInt8) (k : Nat) (hk : k ≤ l.length) (hm : k ≤ m) (ha : ∀ c ∈ l.take k, isD b c = true) (he : k = m ∨ k = l.length ∨ ∃ c, l[k]? = some c ∧ isD b c = false) : digs b m l = l.take k := by
  have h1 : l.takeWhile (isD b) = l.take k ++ (l.drop k).takeWhile (isD b) := by
    conv => lhs; rw [← List.take_append_drop k l]
    rw [List.takeWhile_append_of_pos ha]
  unfold digs
  rw [h1]
  have hl : (l.take k).length = k := by rw [List.length_take]; omega
  rcases he with rfl | rfl | ⟨c, hc, hn⟩
  · rw [List.take_append_of_le_length (by omega), List.take_of_length_le (by omega)]
  · rw [List.drop_length, List.takeWhile_nil, List.append_nil, List.take_of_length_le (by omega)]
  · have h2 : l.drop k = c :: l.drop (k + 1) := by
      obtain ⟨h3, h4⟩ := List.getElem?_eq_some_iff.1 hc
      rw [List.drop_eq_getElem_cons h3, h4]
    rw [h2, List.takeWhile_cons, hn, if_neg (by simp), List.append_nil, List.take_of_length_le (by omega)]
theorem digs_prefix (b m : Nat) (l : List UInt8) : digs b m l = l.take (digs b m l).length := by
  have h1 : l.takeWhile (isD b) <+: l := List.takeWhile_prefix _
  have h2 : digs b m l <+: l := (List.take_prefix _ _).trans h1
  exact (List.prefix_iff_eq_take.1 h2)

/-- A number's character. -/
def chr (n : Int) : Int := if n = 0 ∨ n = 13 ∨ (55296 ≤ n ∧ n ≤ 57343) ∨ 1114111 < n then 65533 else n
theorem chr_ok (n : Int) (h : 0 ≤ n) : okRune (chr n) ∧ chr n ≠ 0 ∧ chr n ≠ 13 := by
  unfold chr okRune
  split <;> omega

/-- A reference by a number, its digits from place f on: what it stands for, and its length. -/
def num (f b m : Nat) (l : List UInt8) : Option (Int × Nat) :=
  if (digs b m (l.drop f)).length = 0 ∨ l[f + (digs b m (l.drop f)).length]? ≠ some 59 then none
  else some (chr (val b (digs b m (l.drop f))), f + (digs b m (l.drop f)).length + 1)
/-- A reference by a name. -/
def near (l : List UInt8) : List UInt8 := (l.drop 1).take 7
def named (l : List UInt8) : Option (Int × Nat) :=
  if Lib.indexByte (near l) 59 < 0 then none
  else (nm ((near l).take (Lib.indexByte (near l) 59).toNat)).map (fun (r : Nat) => ((r : Int), 1 + (Lib.indexByte (near l) 59).toNat + 1))
/-- The reference at the beginning. -/
def one (l : List UInt8) : Option (Int × Nat) :=
  if l.head? ≠ some 38 then none
  else if l.take 3 = [38, 35, 120] ∨ l.take 3 = [38, 35, 88] then num 3 16 6 l
  else if l.take 2 = [38, 35] then num 2 10 7 l
  else named l

/-- The document's own way: what stands between & and ; told. -/
def numR (b m : Nat) (ds : List UInt8) : Option Int := if 1 ≤ ds.length ∧ ds.length ≤ m ∧ ds.all (isD b) = true then some (chr (val b ds)) else none
def ownB (own : List UInt8) : Option Int :=
  if own.take 2 = [35, 120] ∨ own.take 2 = [35, 88] then numR 16 6 (own.drop 2)
  else if own.take 1 = [35] then numR 10 7 (own.drop 1)
  else (nm own).map Int.ofNat

theorem not_mem_get {l : List UInt8} {c : UInt8} (h : c ∉ l) (k : Nat) : l[k]? ≠ some c := fun e => h (List.mem_of_getElem? e)

theorem num_own (b m : Nat) (pre ds rest : List UInt8) (h59 : (59 : UInt8) ∉ ds) : num pre.length b m (pre ++ (ds ++ 59 :: rest)) = (numR b m ds).map (fun r => (r, pre.length + ds.length + 1)) := by
  have hd : (pre ++ (ds ++ 59 :: rest)).drop pre.length = ds ++ 59 :: rest := List.drop_left
  have hg : ∀ k, (pre ++ (ds ++ 59 :: rest))[pre.length + k]? = (ds ++ 59 :: rest)[k]? := fun k => by rw [List.getElem?_append_right (by omega)]; congr 1; omega
  unfold num
  rw [hd, hg]
  by_cases hall : ds.all (isD b) = true
  · have ha := List.all_eq_true.1 hall
    by_cases hm : ds.length ≤ m
    · have e : digs b m (ds ++ 59 :: rest) = ds := by
        have := digs_of b m (ds ++ 59 :: rest) ds.length (by simp) hm (by rw [List.take_left]; exact ha) (Or.inr (Or.inr ⟨59, by simp, isD_59 b⟩))
        rwa [List.take_left] at this
      rw [e]
      by_cases h0 : ds.length = 0
      · rw [if_pos (Or.inl h0), numR, if_neg (by omega)]; rfl
      · rw [if_neg (by simp [h0]), numR, if_pos ⟨by omega, hm, hall⟩]; rfl
    · have e : digs b m (ds ++ 59 :: rest) = ds.take m := by
        have := digs_of b m (ds ++ 59 :: rest) m (by simp; omega) (Nat.le_refl _) (by rw [List.take_append_of_le_length (by omega)]; exact fun c hc => ha c (List.mem_of_mem_take hc)) (Or.inl rfl)
        rwa [List.take_append_of_le_length (by omega)] at this
      have el : (ds.take m).length = m := by rw [List.length_take]; omega
      rw [e, el, if_pos (Or.inr ?_), numR, if_neg (by omega)]
      · rfl
      · rw [List.getElem?_append_left (by omega)]
        exact not_mem_get h59 m
  · have hnr : numR b m ds = none := if_neg (fun h => hall h.2.2)
    rw [hnr]
    have hp := digs_prefix b m (ds ++ 59 :: rest)
    have ha := digs_all b m (ds ++ 59 :: rest)
    have hl : (digs b m (ds ++ 59 :: rest)).length < ds.length := by
      rcases Nat.lt_or_ge (digs b m (ds ++ 59 :: rest)).length ds.length with h | h
      · exact h
      · exfalso
        apply hall
        rw [List.all_eq_true]
        intro c hc
        refine ha c ?_
        rw [hp, List.take_append, List.take_of_length_le h]
        simp [hc]
    rw [if_pos (Or.inr ?_)]
    · rfl
    · rw [List.getElem?_append_left hl]
      exact not_mem_get h59 _
theorem num_none (f b m : Nat) (l : List UInt8) (h : (59 : UInt8) ∉ l) : num f b m l = none := by
  unfold num
  rw [if_pos (Or.inr (not_mem_get h _))]

theorem indexByte_no (l : List UInt8) (c : UInt8) (h : c ∉ l) : Lib.indexByte l c = -1 := by
  induction l with
  | nil => rfl
  | cons d t ih =>
    unfold Lib.indexByte
    have h1 : d ≠ c := fun e => h (by simp [e])
    rw [if_neg (by simpa using h1), ih (fun e => h (by simp [e]))]
    rfl
theorem indexByte_at (a t : List UInt8) (c : UInt8) (h : c ∉ a) : Lib.indexByte (a ++ c :: t) c = a.length := by
  induction a with
  | nil => simp [Lib.indexByte]
  | cons d a ih =>
    have ih := ih (fun e => h (by simp [e]))
    have h1 : d ≠ c := fun e => h (by simp [e])
    rw [List.cons_append, Lib.indexByte, if_neg (by simpa using h1), ih, if_neg (by simp)]
    simp

theorem named_own (own rest : List UInt8) (h59 : (59 : UInt8) ∉ own) : named (38 :: (own ++ 59 :: rest)) = (nm own).map (fun (r : Nat) => ((r : Int), own.length + 2)) := by
  have hn : near (38 :: (own ++ 59 :: rest)) = (own ++ 59 :: rest).take 7 := rfl
  unfold named
  rw [hn]
  by_cases h : own.length ≤ 6
  · have e : (own ++ 59 :: rest).take 7 = own ++ 59 :: rest.take (6 - own.length) := by
      rw [List.take_append, List.take_of_length_le (by omega)]
      congr 1
      rw [show 7 - own.length = (6 - own.length) + 1 by omega, List.take_succ_cons]
    rw [e, indexByte_at _ _ _ h59, if_neg (by omega)]
    simp only [Int.toNat_natCast, List.take_left]
    congr 1
    funext r
    rw [show 1 + own.length + 1 = own.length + 2 by omega]
  · have e : (own ++ 59 :: rest).take 7 = own.take 7 := List.take_append_of_le_length (by omega)
    rw [e, indexByte_no _ _ (fun hc => h59 (List.mem_of_mem_take hc)), if_pos (by omega)]
    cases hno : nm own with
    | none => rfl
    | some n => exact absurd (tbl_facts _ (nm_mem hno)).1 h

theorem take3_cons (a : UInt8) (l : List UInt8) : (a :: l).take 3 = a :: l.take 2 := rfl
/-- (A) A reference's own bytes are those up to the first ;. -/
theorem one_own (own rest : List UInt8) (h59 : (59 : UInt8) ∉ own) : one (38 :: (own ++ 59 :: rest)) = (ownB own).map (fun r => (r, own.length + 2)) := by
  unfold one ownB
  rw [if_neg (by simp)]
  match own, h59 with
  | [], h59 =>
    rw [if_neg (by simp), if_neg (by simp), if_neg (by simp), if_neg (by simp), named_own [] rest h59]
    cases nm [] <;> rfl
  | [c], h59 =>
    by_cases hc : c = 35
    · subst hc
      have := num_own 10 7 [38, 35] [] rest (by simp)
      rw [if_neg (by simp), if_pos (by simp), if_neg (by simp), if_pos (by simp)]
      exact this
    · rw [if_neg (by simp [hc]), if_neg (by simp [hc]), if_neg (by simp [hc]), if_neg (by simp [hc]), named_own [c] rest h59]
      cases nm [c] <;> rfl
  | c :: d :: ds, h59 =>
    by_cases hc : c = 35
    · subst hc
      by_cases hd : d = 120 ∨ d = 88
      · have := num_own 16 6 [38, 35, d] ds rest (by simp at h59; exact h59.2)
        rw [if_pos (by simpa using hd), if_pos (by simpa using hd)]
        rw [show 38 :: (35 :: d :: ds ++ 59 :: rest) = [38, 35, d] ++ (ds ++ 59 :: rest) by simp]
        rw [show (3 : Nat) = ([38, 35, d] : List UInt8).length from rfl, this]
        simp only [List.drop_succ_cons, List.drop_zero, List.length_cons, List.length_nil]
        congr 1
        funext r
        rw [show 0 + 1 + 1 + 1 + ds.length + 1 = ds.length + 1 + 1 + 2 by omega]
      · have hd' : ¬ (d = 120) ∧ ¬ (d = 88) := by
          constructor
          · exact fun e => hd (Or.inl e)
          · exact fun e => hd (Or.inr e)
        have := num_own 10 7 [38, 35] (d :: ds) rest (by simp at h59 ⊢; exact h59)
        rw [if_neg (by simp [hd'.1, hd'.2]), if_pos (by simp), if_neg (by simp [hd'.1, hd'.2]), if_pos (by simp)]
        rw [show 38 :: (35 :: d :: ds ++ 59 :: rest) = [38, 35] ++ (d :: ds ++ 59 :: rest) by simp]
        rw [show (2 : Nat) = ([38, 35] : List UInt8).length from rfl, this]
        simp only [List.drop_succ_cons, List.drop_zero, List.length_cons, List.length_nil]
        congr 1
        funext r
        rw [show 0 + 1 + 1 + (ds.length + 1) + 1 = ds.length + 1 + (0 + 1 + 1 + 1) by omega]
    · rw [if_neg (by simp [hc]), if_neg (by simp [hc]), if_neg (by simp [hc]), if_neg (by simp [hc]), named_own _ rest h59]
      cases nm (c :: d :: ds) <;> rfl
theorem one_none (t : List UInt8) (h : (59 : UInt8) ∉ t) : one (38 :: t) = none := by
  have h' : (59 : UInt8) ∉ (38 :: t) := by simp [h]
  unfold one
  rw [if_neg (by simp), num_none _ _ _ _ h', num_none _ _ _ _ h']
  split
  · rfl
  split
  · rfl
  have hn : near (38 :: t) = t.take 7 := rfl
  unfold named
  rw [hn, indexByte_no _ _ (fun hc => h (List.mem_of_mem_take hc)), if_pos (by omega)]
theorem one_not (l : List UInt8) (h : l.head? ≠ some 38) : one l = none := if_pos h

/-- Either there is no ; or one is the first. -/
theorem semi_cases (t : List UInt8) : (59 : UInt8) ∉ t ∨ ∃ own rest, t = own ++ 59 :: rest ∧ (59 : UInt8) ∉ own := by
  induction t with
  | nil => left; simp
  | cons c t ih =>
    by_cases hc : c = 59
    · right; exact ⟨[], t, by rw [hc]; rfl, by simp⟩
    · rcases ih with h | ⟨own, rest, rfl, h⟩
      · left; simp [Ne.symm hc, h]
      · right; exact ⟨c :: own, rest, rfl, by simp [Ne.symm hc, h]⟩

/-- What a reference's own bytes may be: none of them is above 127; and what they stand for may be. -/
theorem ownB_ok {own : List UInt8} {r : Int} (h : ownB own = some r) : okRune r ∧ r ≠ 0 ∧ r ≠ 13 := by
  unfold ownB at h
  have hn : ∀ b m ds, numR b m ds = some r → okRune r ∧ r ≠ 0 ∧ r ≠ 13 := by
    intro b m ds h
    unfold numR at h
    split at h
    · rename_i hc
      cases h
      exact chr_ok _ (val_bd b ds (List.all_eq_true.1 hc.2.2)).1
    · cases h
  split at h
  · exact hn _ _ _ h
  split at h
  · exact hn _ _ _ h
  · obtain ⟨n, h1, rfl⟩ := Option.map_eq_some_iff.1 h
    have := (tbl_facts _ (nm_mem h1)).2.2.2.2
    refine ⟨this.1, ?_, ?_⟩
    · intro e; exact this.2.1 (by simpa using Int.ofNat_eq_zero.1 e)
    · intro e; exact this.2.2 (Int.ofNat.inj e)
theorem one_some {l : List UInt8} {r : Int} {n : Nat} (h : one l = some (r, n)) : ∃ own rest, l = 38 :: (own ++ 59 :: rest) ∧ n = own.length + 2 ∧ ownB own = some r := by
  cases l with
  | nil => rw [one_not _ (by simp)] at h; cases h
  | cons c t =>
    by_cases hc : c = 38
    · subst hc
      rcases semi_cases t with h1 | ⟨own, rest, rfl, h1⟩
      · rw [one_none t h1] at h; cases h
      · rw [one_own own rest h1] at h
        obtain ⟨r', h2, h3⟩ := Option.map_eq_some_iff.1 h
        cases h3
        exact ⟨own, rest, rfl, rfl, h2⟩
    · rw [one_not _ (by simpa using hc)] at h; cases h
theorem one_bd {l : List UInt8} {r : Int} {n : Nat} (h : one l = some (r, n)) : 2 ≤ n ∧ n ≤ l.length ∧ okRune r ∧ r ≠ 0 ∧ r ≠ 13 := by
  obtain ⟨own, rest, rfl, rfl, h2⟩ := one_some h
  have := ownB_ok h2
  exact ⟨by omega, by simp only [List.length_cons, List.length_append]; omega, this⟩
/-- What One answers. -/
def oneR (l : List UInt8) : Int := ((one l).map (·.1)).getD 0
def oneN (l : List UInt8) : Nat := ((one l).map (·.2)).getD 0
theorem oneR_bd (l : List UInt8) : 0 ≤ oneR l ∧ oneR l ≤ 1114111 := by
  unfold oneR
  cases h : one l with
  | none => simp
  | some p =>
    have := (one_bd (r := p.1) (n := p.2) (by rw [h])).2.2.1
    unfold okRune at this
    simp
    omega
theorem oneN_le (l : List UInt8) : oneN l ≤ l.length := by
  unfold oneN
  cases h : one l with
  | none => simp
  | some p => exact (one_bd (r := p.1) (n := p.2) (by rw [h])).2.1

/-! ### Decoded -/
def decode (l : List UInt8) : List UInt8 :=
  match l with
  | [] => []
  | c :: t => match one (c :: t) with
    | some (r, n) => enc r ++ decode (t.drop (n - 1))
    | none => c :: decode t
termination_by l.length
decreasing_by all_goals simp <;> omega
theorem decode_nil : decode [] = [] := by rw [decode]
theorem decode_ref {l : List UInt8} {r : Int} {n : Nat} (h : one l = some (r, n)) : decode l = enc r ++ decode (l.drop n) := by
  obtain ⟨own, rest, rfl, rfl, h2⟩ := one_some h
  rw [decode, h]
  simp
theorem decode_byte {c : UInt8} {t : List UInt8} (h : one (c :: t) = none) : decode (c :: t) = c :: decode t := by
  rw [decode, h]
theorem decode_plain {c : UInt8} (t : List UInt8) (h : c ≠ 38) : decode (c :: t) = c :: decode t := decode_byte (one_not _ (by simpa using h))
theorem decode_past (a t : List UInt8) (h : (38 : UInt8) ∉ a) : decode (a ++ t) = a ++ decode t := by
  induction a with
  | nil => rfl
  | cons c a ih =>
    rw [List.cons_append, decode_plain _ (fun e => h (by simp [e])), ih (fun e => h (by simp [e]))]
    rfl
theorem decode_self (l : List UInt8) (h : (38 : UInt8) ∉ l) : decode l = l := by
  have := decode_past l [] h
  rwa [List.append_nil, decode_nil, List.append_nil] at this
theorem enc_len_le (r : Int) : (enc r).length ≤ 4 ∧ 1 ≤ (enc r).length := by
  have := Lib.encodeRuneZ_length r
  have e : (enc r).length = (Lib.encodeRuneZ r).length := by simp [enc, Lib.encodeRune]
  omega
theorem decode_len : ∀ (n : Nat) (l : List UInt8), l.length ≤ n → (decode l).length ≤ 4 * l.length := by
  intro n
  induction n with
  | zero => intro l hl; have : l = [] := List.eq_nil_of_length_eq_zero (by omega); subst this; rw [decode_nil]; simp
  | succ n ih =>
    intro l hl
    cases l with
    | nil => rw [decode_nil]; simp
    | cons c t =>
      cases h : one (c :: t) with
      | none =>
        have := ih t (by simp at hl; omega)
        rw [decode_byte h]
        simp; omega
      | some p =>
        have hb := one_bd (r := p.1) (n := p.2) h
        have := ih ((c :: t).drop p.2) (by rw [List.length_drop]; omega)
        have he := enc_len_le p.1
        rw [decode_ref (r := p.1) (n := p.2) h, List.length_append]
        rw [List.length_drop] at this
        omega

/-! ### Written -/
def esc (v : Bool) (c : UInt8) : List UInt8 := if c = 38 then [38, 97, 109, 112, 59] else if c = 60 then [38, 108, 116, 59] else if c = 62 then [38, 103, 116, 59] else if c = 34 ∧ v = true then [38, 113, 117, 111, 116, 59] else [c]
def escape (v : Bool) (l : List UInt8) : List UInt8 := l.flatMap (esc v)
theorem escape_append (v : Bool) (a b : List UInt8) : escape v (a ++ b) = escape v a ++ escape v b := by simp [escape]
theorem escape_cons (v : Bool) (c : UInt8) (t : List UInt8) : escape v (c :: t) = esc v c ++ escape v t := by simp [escape]
theorem esc_len (v : Bool) (c : UInt8) : (esc v c).length ≤ 6 := by
  unfold esc
  repeat' split
  all_goals simp
theorem escape_len (v : Bool) (l : List UInt8) : (escape v l).length ≤ 6 * l.length := by
  induction l with
  | nil => simp [escape]
  | cons c t ih =>
    have := esc_len v c
    rw [escape_cons, List.length_append, List.length_cons]
    omega
theorem decode_name (own t : List UInt8) (n : Nat) (c : UInt8) (h59 : (59 : UInt8) ∉ own) (h : ownB own = some (n : Int)) (he : enc n = [c]) : decode (38 :: (own ++ 59 :: t)) = c :: decode t := by
  have h1 := one_own own t h59
  rw [h] at h1
  rw [decode_ref h1, he]
  simp
theorem decode_esc (v : Bool) (c : UInt8) (t : List UInt8) : decode (esc v c ++ t) = c :: decode t := by
  unfold esc
  split
  · rename_i e; subst e
    exact decode_name [97, 109, 112] t 38 38 (by decide) (by decide) (by decide)
  split
  · rename_i e; subst e
    exact decode_name [108, 116] t 60 60 (by decide) (by decide) (by decide)
  split
  · rename_i e; subst e
    exact decode_name [103, 116] t 62 62 (by decide) (by decide) (by decide)
  split
  · rename_i e; obtain ⟨rfl, _⟩ := e
    exact decode_name [113, 117, 111, 116] t 34 34 (by decide) (by decide) (by decide)
  · rename_i h _ _ _
    exact decode_plain t h
theorem decode_escape_past (v : Bool) (l t : List UInt8) : decode (escape v l ++ t) = l ++ decode t := by
  induction l with
  | nil => rfl
  | cons c l ih => rw [escape_cons, List.append_assoc, decode_esc, ih]; rfl
theorem decode_escape (v : Bool) (l : List UInt8) : decode (escape v l) = l := by
  have := decode_escape_past v l []
  rwa [List.append_nil, decode_nil, List.append_nil] at this
theorem esc_bare (c : UInt8) : ∀ x ∈ esc true c, x ≠ 60 ∧ x ≠ 62 ∧ x ≠ 34 := by
  unfold esc
  split
  · decide
  split
  · decide
  split
  · decide
  split
  · decide
  · rename_i h1 h2 h3 h4
    intro x hx
    simp at hx
    subst hx
    exact ⟨h2, h3, fun e => h4 ⟨e, rfl⟩⟩
theorem escape_bare (l : List UInt8) : ∀ x ∈ escape true l, x ≠ 60 ∧ x ≠ 62 ∧ x ≠ 34 := by
  intro x hx
  obtain ⟨c, _, h⟩ := List.mem_flatMap.1 hx
  exact esc_bare c x h

/-! ### Right texts -/
def okT (rs : List Int) : Prop := ∀ r ∈ rs, okRune r ∧ r ≠ 0 ∧ r ≠ 13
theorem right_iff (l : List UInt8) : isB l = true ↔ ∃ rs, okT rs ∧ l = text rs := by
  constructor
  · intro h
    exact ⟨_, right_ok l, ((isB_right_iff l).1 h).symm⟩
  · rintro ⟨rs, h, rfl⟩
    rw [isB_right_iff]
    have h1 := runes_text rs (fun r hr => (h r hr).1) []
    rw [List.append_nil, runes_nil, List.append_nil] at h1
    unfold right
    rw [h1, mk_fix _ (fun r hr => (h r hr).2)]
theorem enc_high (r : Int) (h : okRune r) (h1 : 128 ≤ r) : ∀ x ∈ enc r, 128 ≤ x.toNat := by
  obtain ⟨n, rfl⟩ : ∃ n : Nat, r = n := ⟨r.toNat, by omega⟩
  have hn : (128 ≤ n ∧ n ≤ 2047) ∨ ((2048 ≤ n ∧ n < 55296) ∨ (57343 < n ∧ n ≤ 65535)) ∨ (65536 ≤ n ∧ n ≤ 1114111) := by unfold okRune at h; omega
  intro x hx
  rcases hn with ⟨h1, h2⟩ | h1 | ⟨h1, h2⟩
  · rw [enc2 n h1 h2] at hx
    simp only [List.mem_cons, List.not_mem_nil, or_false] at hx
    rcases hx with rfl | rfl <;> (rw [toNat_u8 _ (by omega)]; omega)
  · rw [enc3 n h1] at hx
    simp only [List.mem_cons, List.not_mem_nil, or_false] at hx
    rcases hx with rfl | rfl | rfl <;> (rw [toNat_u8 _ (by omega)]; omega)
  · rw [enc4 n h1 h2] at hx
    simp only [List.mem_cons, List.not_mem_nil, or_false] at hx
    rcases hx with rfl | rfl | rfl | rfl <;> (rw [toNat_u8 _ (by omega)]; omega)
theorem enc_low (r : Int) (h : 0 ≤ r) (h1 : r < 128) : enc r = [r.toNat.toUInt8] := by
  obtain ⟨n, rfl⟩ : ∃ n : Nat, r = n := ⟨r.toNat, by omega⟩
  exact enc1 n (by omega)
/-- Behind a byte below 128 a text of characters goes on as one. -/
theorem text_cut : ∀ (rs : List Int) (p : List UInt8) (c : UInt8) (rest : List UInt8), okT rs → text rs = p ++ c :: rest → c.toNat < 128 → ∃ rs2, okT rs2 ∧ rest = text rs2
  | [], p, c, rest, _, h, _ => by simp [text] at h
  | r :: rs, p, c, rest, ho, h, hc => by
    have hor := ho r (by simp)
    have ho' : okT rs := fun x hx => ho x (by simp [hx])
    rw [text_cons] at h
    rcases Nat.lt_or_ge p.length (enc r).length with hl | hl
    · by_cases hr : 128 ≤ r
      · exfalso
        have h1 : (enc r)[p.length]? = some c := by
          have := congrArg (fun l => l[p.length]?) h
          simp only [List.getElem?_append_left hl] at this
          rw [this]
          simp
        have := enc_high r hor.1 hr c (List.mem_of_getElem? h1)
        omega
      · have h00 : 0 ≤ r := by
          have := hor.1
          unfold okRune at this
          omega
        have e := enc_low r h00 (by omega)
        rw [e] at h hl
        have hl1 : p.length < 1 := hl
        have hp : p = [] := List.eq_nil_of_length_eq_zero (by omega)
        subst hp
        simp at h
        exact ⟨rs, ho', h.2.symm⟩
    · have h1 : p = enc r ++ p.drop (enc r).length := by
        have := congrArg (List.take (enc r).length) h
        rw [List.take_left, List.take_append_of_le_length hl] at this
        conv => lhs; rw [← List.take_append_drop (enc r).length p]
        rw [← this]
      rw [h1, List.append_assoc] at h
      exact text_cut rs _ c rest ho' (List.append_cancel_left h) hc
theorem decode_right : ∀ (n : Nat) (rs : List Int), (text rs).length ≤ n → okT rs → ∃ rs', okT rs' ∧ decode (text rs) = text rs' := by
  intro n
  induction n with
  | zero =>
    intro rs hn ho
    have := text_len rs
    have h : rs = [] := List.eq_nil_of_length_eq_zero (by omega)
    subst h
    exact ⟨[], ho, by rw [show text [] = [] from rfl, decode_nil]⟩
  | succ n ih =>
    intro rs hn ho
    match rs, ho with
    | [], ho => exact ⟨[], ho, by rw [show text [] = [] from rfl, decode_nil]⟩
    | r :: rs, ho =>
      have hor := ho r (by simp)
      have ho' : okT rs := fun x hx => ho x (by simp [hx])
      have hel := enc_len_le r
      rw [text_cons] at hn ⊢
      rw [List.length_append] at hn
      have plain : (38 : UInt8) ∉ enc r → ∃ rs', okT rs' ∧ decode (enc r ++ text rs) = text rs' := by
        intro h
        obtain ⟨rs', h1, h2⟩ := ih rs (by omega) ho'
        refine ⟨r :: rs', ?_, ?_⟩
        · intro x hx
          rcases List.mem_cons.1 hx with rfl | hx
          · exact hor
          · exact h1 x hx
        · rw [decode_past _ _ h, h2, text_cons]
      by_cases hr : 128 ≤ r
      · exact plain (fun hm => by have h1 := enc_high r hor.1 hr _ hm; exact absurd h1 (by decide))
      have h00 : 0 ≤ r := by
        have := hor.1
        unfold okRune at this
        omega
      have e := enc_low r h00 (by omega)
      by_cases h38 : r = 38
      · subst h38
        have e : enc 38 = [38] := by decide
        rw [e] at hn ⊢
        cases h : one ([38] ++ text rs) with
        | none =>
          obtain ⟨rs', h1, h2⟩ := ih rs (by simp at hn; omega) ho'
          refine ⟨38 :: rs', ?_, ?_⟩
          · intro x hx
            rcases List.mem_cons.1 hx with rfl | hx
            · decide
            · exact h1 x hx
          · rw [show ([38] : List UInt8) ++ text rs = 38 :: text rs from rfl] at h ⊢
            rw [decode_byte h, h2, text_cons, e]
            rfl
        | some p =>
          obtain ⟨q, k⟩ := p
          obtain ⟨own, rest, h1, h2, h3⟩ := one_some h
          have hq := ownB_ok h3
          rw [decode_ref h, h1]
          have hd : (38 :: (own ++ 59 :: rest)).drop k = rest := by rw [h2]; simp
          rw [hd]
          have h4 : text rs = own ++ 59 :: rest := by simpa using h1
          obtain ⟨rs2, h5, h6⟩ := text_cut rs own 59 rest ho' h4 (by decide)
          obtain ⟨rs', h7, h8⟩ := ih rs2 (by rw [← h6]; rw [h4] at hn; simp at hn; omega) h5
          refine ⟨q :: rs', ?_, ?_⟩
          · intro x hx
            rcases List.mem_cons.1 hx with rfl | hx
            · exact hq
            · exact h7 x hx
          · rw [h6, h8, text_cons]
      · refine plain ?_
        rw [e]
        intro hm
        simp only [List.mem_singleton] at hm
        have h1 := congrArg UInt8.toNat hm
        rw [toNat_u8 _ (by omega)] at h1
        have : (38 : UInt8).toNat = 38 := rfl
        have h0 : 0 ≤ r := by have := hor.1; unfold okRune at this; omega
        omega
theorem isB_decode (l : List UInt8) (h : isB l = true) : isB (decode l) = true := by
  obtain ⟨rs, ho, rfl⟩ := (right_iff l).1 h
  obtain ⟨rs', h1, h2⟩ := decode_right _ rs (Nat.le_refl _) ho
  rw [h2]
  exact (right_iff _).2 ⟨rs', h1, rfl⟩
/-- A text below 128 is its bytes' text. -/
theorem low_text (l : List UInt8) (h : ∀ c ∈ l, c.toNat < 128 ∧ c ≠ 0 ∧ c ≠ 13) : ∃ rs, okT rs ∧ l = text rs := by
  induction l with
  | nil => exact ⟨[], by simp [okT], rfl⟩
  | cons c l ih =>
    obtain ⟨rs, h1, h2⟩ := ih (fun x hx => h x (by simp [hx]))
    have hc := h c (by simp)
    refine ⟨(c.toNat : Int) :: rs, ?_, ?_⟩
    · intro x hx
      rcases List.mem_cons.1 hx with rfl | hx
      · refine ⟨by unfold okRune; omega, ?_, ?_⟩
        · intro e
          exact hc.2.1 (UInt8.toNat_inj.1 (by simpa using (by omega : c.toNat = 0)))
        · intro e
          exact hc.2.2 (UInt8.toNat_inj.1 (by simpa using (by omega : c.toNat = 13)))
      · exact h1 x hx
    · rw [text_cons, enc1 _ (by omega), u8_of_toNat c _ rfl, ← h2]
      rfl
theorem escape_right : ∀ (rs : List Int), okT rs → ∃ rs', okT rs' ∧ escape true (text rs) = text rs'
  | [], ho => ⟨[], ho, rfl⟩
  | r :: rs, ho => by
    have hor := ho r (by simp)
    obtain ⟨rs', h1, h2⟩ := escape_right rs (fun x hx => ho x (by simp [hx]))
    have key : ∃ q, okT q ∧ escape true (enc r) = text q := by
      by_cases hr : 128 ≤ r
      · have hh := enc_high r hor.1 hr
        have hsame : ∀ l : List UInt8, (∀ x ∈ l, 128 ≤ x.toNat) → escape true l = l := by
          intro l
          induction l with
          | nil => intro _; rfl
          | cons c l ih =>
            intro h
            have hc := h c (by simp)
            have n1 : ¬ c = 38 := fun e => by subst e; exact absurd hc (by decide)
            have n2 : ¬ c = 60 := fun e => by subst e; exact absurd hc (by decide)
            have n3 : ¬ c = 62 := fun e => by subst e; exact absurd hc (by decide)
            have n4 : ¬ c = 34 := fun e => by subst e; exact absurd hc (by decide)
            rw [escape_cons, ih (fun x hx => h x (by simp [hx])), esc, if_neg n1, if_neg n2, if_neg n3, if_neg (fun e => n4 e.1)]
            rfl
        refine ⟨[r], ?_, ?_⟩
        · intro x hx
          simp at hx
          subst hx
          exact hor
        · rw [hsame _ hh]
          simp [text]
      · have h0 : 0 ≤ r := by have := hor.1; unfold okRune at this; omega
        have e := enc_low r h0 (by omega)
        rw [e]
        refine low_text _ ?_
        intro x hx
        rw [escape_cons] at hx
        simp only [escape, List.flatMap_nil, List.append_nil] at hx
        unfold esc at hx
        split at hx
        · revert x; decide
        split at hx
        · revert x; decide
        split at hx
        · revert x; decide
        split at hx
        · revert x; decide
        · simp only [List.mem_singleton] at hx
          subst hx
          have t := toNat_u8 r.toNat (by omega)
          refine ⟨by omega, ?_, ?_⟩
          · intro e2
            have := congrArg UInt8.toNat e2
            rw [t] at this
            have e3 : (0 : UInt8).toNat = 0 := rfl
            exact hor.2.1 (by omega)
          · intro e2
            have := congrArg UInt8.toNat e2
            rw [t] at this
            have e3 : (13 : UInt8).toNat = 13 := rfl
            exact hor.2.2 (by omega)
    obtain ⟨q, h3, h4⟩ := key
    refine ⟨q ++ rs', ?_, ?_⟩
    · intro x hx
      rcases List.mem_append.1 hx with hx | hx
      · exact h3 x hx
      · exact h1 x hx
    · rw [text_cons, escape_append, h4, h2, text_append]
theorem isB_escape (l : List UInt8) (h : isB l = true) : isB (escape true l) = true := by
  obtain ⟨rs, ho, rfl⟩ := (right_iff l).1 h
  obtain ⟨rs', h1, h2⟩ := escape_right rs ho
  rw [h2]
  exact (right_iff _).2 ⟨rs', h1, rfl⟩
end M2
end Go.Proofs.Yteefodibpjgicaa
