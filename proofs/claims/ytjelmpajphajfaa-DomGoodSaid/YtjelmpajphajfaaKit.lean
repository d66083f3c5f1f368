/- Small words for slices that a call reads or makes, one cell an element; and what a conversion of a text leaves. -/
import Derived.WalkKit
import Derived.WalkSpells
import Derived.WalkLawsBesides
import Derived.Lib.ConvBytes
import Derived.Lib.UnsafeStr
import Derived.Lib.OthersKept
import Derived.Lib.Hide
import Derived.Lib.Strings
import Derived.WalkSmall
import Derived.Laws.AppendOwnNone
namespace Go.Proofs.Ytjelmpajphajfaa
open Go.RowKit

theorem ne_of_lt {α : Type} {xs : List α} {k : Nat} (h : k < xs.length) : xs ≠ [] := fun e => by subst e; simp at h
/-- The slice v reads in w as xs (one cell an element). -/
def Sl (w : World) (v : Value) (xs : List Value) : Prop :=
  ∃ (a : Option Addr) (cap : Nat), v = .slice a xs.length cap ∧ xs.length ≤ cap ∧ cap ≤ 9223372036854775807 ∧ (a = none → cap = 0) ∧
    (xs ≠ [] → ∃ b off, a = some ⟨b, off, none⟩ ∧ ∀ j (h : j < xs.length), w.cell? ⟨b, off + j, none⟩ = some xs[j])

abbrev u8s (l : List UInt8) : List Value := Lib.byteCells l
theorem u8s_append (a b : List UInt8) : u8s (a ++ b) = u8s a ++ u8s b := Lib.byteCells_append a b
@[simp] theorem u8s_length (a : List UInt8) : (u8s a).length = a.length := Lib.byteCells_length a
theorem u8s_get (a : List UInt8) (k : Nat) (c : UInt8) (h : a[k]? = some c) : (u8s a)[k]? = some (.int .u8 (c.toNat : Int)) := by simp [u8s, Lib.byteCells, h]
theorem u8s_set (a : List UInt8) (k : Nat) (c : UInt8) : (u8s a).set k (.int .u8 (c.toNat : Int)) = u8s (a.set k c) := by simp [u8s, Lib.byteCells, List.map_set]
def i32s (l : List Int) : List Value := l.map (Value.int .i32)
@[simp] theorem i32s_length (l : List Int) : (i32s l).length = l.length := by simp [i32s]
theorem i32s_append (a b : List Int) : i32s (a ++ b) = i32s a ++ i32s b := by simp [i32s]

theorem Sl.below {w w' : World} {v : Value} {xs : List Value} (h : Sl w v xs) (hb : Below w.heap.size w w') : Sl w' v xs := by
  obtain ⟨a, cap, h1, h2, h3, h4, h5⟩ := h
  refine ⟨a, cap, h1, h2, h3, h4, fun hne => ?_⟩
  obtain ⟨b, off, h6, h7⟩ := h5 hne
  refine ⟨b, off, h6, fun j hj => ?_⟩
  have h8 := h7 j hj
  rw [hb.cell (World.block_lt_of_cell? w _ h8)]
  exact h8

theorem Sl.nil (w : World) : Sl w (.slice none 0 0) [] := ⟨none, 0, rfl, Nat.le_refl _, by omega, fun _ => rfl, fun h => absurd rfl h⟩

theorem Sl.own {w : World} {B : Nat} {e : TypeId} {v : Value} {n : Nat} {xs : List Value} (h : w.ownsRow B e 1 v n xs) : Sl w v xs := by
  have hn : xs.length = n := by have := h.1; omega
  have hc := fun g hg => h.cells (g := g) hg
  rcases h.2 with ⟨rfl, h0⟩ | ⟨g, cap, cur, rfl, _, hg, h1, h2, h3, h4⟩
  · have : xs = [] := List.eq_nil_of_length_eq_zero (by omega)
    subst this
    exact Sl.nil w
  · unfold maxLen at h2
    refine ⟨some ⟨g, 0, none⟩, cap, by rw [hn], by omega, by omega, (fun h => by cases h), fun _ => ⟨g, 0, rfl, fun j hj => ?_⟩⟩
    have h5 := hc g rfl j xs[j] (List.getElem?_eq_getElem hj)
    have hplain : (⟨g, 0, none⟩ : Addr).add j = ⟨g, 0 + j, none⟩ := by unfold Addr.add; split <;> simp_all
    rwa [hplain] at h5

/-- Behind '[]byte(s)'. -/
theorem Sl.bytes (w : World) (e : TypeId) (s : ByteArray) (hs : s.size ≤ 9223372036854775807) :
    Sl (Lib.bytesWorld w e s) (.slice (some ⟨w.heap.size, 0, none⟩) s.size (grownCap w s.size 0 e)) (u8s s.data.toList) := by
  have hl : (u8s s.data.toList).length = s.size := by rw [u8s, Lib.byteCells_length]; rfl
  have h1 := grownCap_ge w s.size 0 e
  have h2 := grownCap_le_maxLen w s.size 0 e (by unfold maxLen; omega)
  unfold maxLen at h2
  refine ⟨_, _, by rw [hl], by omega, by omega, (fun h => by cases h), fun _ => ⟨_, 0, rfl, fun j hj => ?_⟩⟩
  rw [Nat.zero_add, Lib.bytesWorld_cell w e s j (by omega)]
  have hj' : j < s.data.toList.length := by rw [hl] at hj; exact hj
  simp [u8s, Lib.byteCells, List.getD_eq_getElem?_getD, List.getElem?_eq_getElem hj']

theorem below_bytesWorld (w : World) (e : TypeId) (s : ByteArray) : Below w.heap.size w (Lib.bytesWorld w e s) :=
  ⟨by simp [Lib.bytesWorld, World.freeze, World.alloc, World.drew, -World.alloc_eq, -World.drew_eq], by simp [Lib.bytesWorld, World.freeze, World.alloc, World.drew, -World.alloc_eq, -World.drew_eq],
    by simp [Lib.bytesWorld, World.freeze, World.alloc, World.drew, -World.alloc_eq, -World.drew_eq], by rw [Lib.bytesWorld_size]; omega, fun k hk => Lib.bytesWorld_at_old w e s k hk⟩

/-- 'string(b)'. -/
theorem Sl.toString {P : Program} {w : World} {v : Value} {l : List UInt8} (h : Sl w v (u8s l)) (src dst e : TypeId) (hs : P.underlying src = some (.slice e)) (he : P.underlying e = some (.int .u8)) (hd : P.underlying dst = some .string) :
    (convert src dst v).run P w = .ok (.string ⟨l.toArray⟩) w := by
  obtain ⟨a, cap, rfl, h2, h3, h4, h5⟩ := h
  have hl : (u8s l).length = l.length := Lib.byteCells_length l
  cases a with
  | none =>
    have : l = [] := List.eq_nil_of_length_eq_zero (by have := h4 rfl; omega)
    subst this
    rw [run_convert_bytes_nil w src e hs he _ _ dst hd]
    rfl
  | some a =>
    rw [hl]
    refine run_convert_bytes_back w src dst e a cap l hs he hd fun j hj => ?_
    obtain ⟨b, off, h6, h7⟩ := h5 (fun h0 => by rw [h0] at hl; simp at hl; omega)
    cases h6
    have hplain : (⟨b, off, none⟩ : Addr).add j = ⟨b, off + j, none⟩ := by unfold Addr.add; split <;> simp_all
    rw [hplain, h7 j (by omega)]
    simp [u8s, Lib.byteCells]

/-- 'grownBy' from before a new block on. -/
theorem grownBy_of_alloc {w w2 : World} {o : Obj} {row : Option Nat} (h : (w.alloc o).grownBy w2 row) : w.grownBy w2 row :=
  ⟨h.os, h.tape, h.output, Nat.le_trans (by simp) h.size, fun k hk hne => by rw [h.block k (by simp; omega) hne]; exact Lib.alloc_old w o k hk⟩

/-- 'append(s, x)' of one element of one cell onto a row that the call owns. -/
theorem wpList_app1 {P : Program} {ops : Array Oper} {rest : List Oper} {o : Oper} {a : Act} {Q : Exit → Act → World → Prop} (w1 : World) (x : Value) (hgd : o.guard = none) (s y : Operand) (t e : TypeId)
    (ho : o.op = .call { callee := .builtin .append, args := #[s, y], argTypes := #[t, t] }) (base : Nat) {z : Value} {bytes : Nat} (ht : P.underlying t = some (.slice e))
    (hinfo : (P.info? e).map (fun i => (i.zero, i.size, i.bytes)) = some (some z, 1, bytes)) (hz : z.cells.size = 1)
    (v : Value) (n : Nat) (xs : List Value) (hs : a.eval s = v) (hown : w1.ownsRow base e 1 v n xs) (hx : a.eval y = .slice (some ⟨w1.heap.size, 0, none⟩) 1 1) (h1 : x.oneCell' = true)
    (h63 : n + 1 ≤ 9223372036854775807) (hbytes : (n + 1) * bytes ≤ 140737488355328) (hbase : base ≤ w1.heap.size)
    (h : ∀ v' w2, w2.ownsRow base e 1 v' (n + 1) (xs ++ [x]) → w1.grownBy w2 v.ownBlock → wpList P ops Q rest (a.put o.dst v') w2) : wpList P ops Q (o :: rest) a (w1.alloc (.cells #[x] e)) := by
  obtain ⟨i, hi, hz0, hz1, hz2⟩ := info_parts hinfo
  refine wpList_append_own _ hgd s y t ho base e i z 1 bytes ht hi hz0 hz1 hz2 hz (by decide) v n xs hs (hown.alloc _) ⟨w1.heap.size, 0, none⟩ 1 1 [x] hx rfl ?_ ?_ (by unfold maxLen; omega) hbytes (by simp; omega) ?_
  · intro j u hj
    match j, hj with
    | 0, hj => simp at hj; subst hj; simp [Addr.add]
  · intro u hu; simp at hu; subst hu; exact h1
  · intro v' w2 h2 h3 _
    exact h v' w2 h2 (grownBy_of_alloc h3)

/-- 'append(s, y...)' onto a row that the call owns; y reads as ys. -/
theorem wpList_appSl {P : Program} {ops : Array Oper} {rest : List Oper} {o : Oper} {a : Act} {Q : Exit → Act → World → Prop} (w1 : World) (hgd : o.guard = none) (s y : Operand) (t e : TypeId)
    (ho : o.op = .call { callee := .builtin .append, args := #[s, y], argTypes := #[t, t] }) (base : Nat) {z : Value} {bytes : Nat} (ht : P.underlying t = some (.slice e))
    (hinfo : (P.info? e).map (fun i => (i.zero, i.size, i.bytes)) = some (some z, 1, bytes)) (hz : z.cells.size = 1)
    (v : Value) (n : Nat) (xs : List Value) (hs : a.eval s = v) (hown : w1.ownsRow base e 1 v n xs) (yv : Value) (ys : List Value) (hy : a.eval y = yv) (hx : Sl w1 yv ys) (h1 : ∀ u ∈ ys, u.oneCell' = true)
    (h63 : n + ys.length ≤ 9223372036854775807) (hbytes : (n + ys.length) * bytes ≤ 140737488355328) (hbase : base ≤ w1.heap.size)
    (h : ∀ v' w2, w2.ownsRow base e 1 v' (n + ys.length) (xs ++ ys) → w1.grownBy w2 v.ownBlock → wpList P ops Q rest (a.put o.dst v') w2) : wpList P ops Q (o :: rest) a w1 := by
  obtain ⟨i, hi, hz0, hz1, hz2⟩ := info_parts hinfo
  obtain ⟨ad, cap, rfl, h2, h3, h4, h5⟩ := hx
  cases ad with
  | none =>
    have h6 := h4 rfl
    have h7 : ys = [] := List.eq_nil_of_length_eq_zero (by omega)
    subst h7
    subst h6
    refine wpList_append_own_none hgd s y t ho base e i 1 ht hi v n xs hs hown hy ?_
    have := h v w1 (by simpa using hown) ⟨rfl, rfl, rfl, Nat.le_refl _, fun _ _ _ => rfl⟩
    exact this
  | some ad =>
    refine wpList_append_own _ hgd s y t ho base e i z 1 bytes ht hi hz0 hz1 hz2 hz (by decide) v n xs hs hown ad ys.length cap ys hy (by omega) ?_ h1 (by unfold maxLen; omega) hbytes hbase ?_
    · intro j u hj
      obtain ⟨hj', e⟩ := List.getElem?_eq_some_iff.1 hj
      obtain ⟨b, off, h6, h7⟩ := h5 (ne_of_lt hj')
      cases h6
      have hplain : (⟨b, off, none⟩ : Addr).add j = ⟨b, off + j, none⟩ := by unfold Addr.add; split <;> simp_all
      rw [hplain, h7 j hj', e]
    · intro v' w2 h8 h9 _
      exact h v' w2 h8 h9

theorem owns_below {w w1 : World} {base : Nat} {e : TypeId} {v : Value} {n : Nat} {xs : List Value} (h : w.ownsRow base e 1 v n xs) (hb : Below w.heap.size w w1) : w1.ownsRow base e 1 v n xs :=
  h.kept (row := none) ⟨hb.os, hb.tape, hb.output, hb.size, fun k hk _ => hb.block k hk⟩ (by cases h : v.ownBlock <;> simp)
/-- 's[k:]' -/
theorem Sl.drop {w : World} {b off n cap : Nat} {xs : List Value} (h : Sl w (.slice (some ⟨b, off, none⟩) n cap) xs) (k : Nat) (hk : k ≤ n) : Sl w (.slice (some ⟨b, off + k, none⟩) (n - k) (cap - k)) (xs.drop k) := by
  obtain ⟨a, cap', h1, h2, h3, h4, h5⟩ := h
  cases h1
  refine ⟨some ⟨b, off + k, none⟩, cap - k, by rw [List.length_drop], by rw [List.length_drop]; omega, by omega, (fun h => by cases h), fun hne => ?_⟩
  have h6 : k < xs.length := by
    rcases Nat.lt_or_ge k xs.length with h6 | h6
    · exact h6
    · exact absurd (List.drop_of_length_le h6) hne
  obtain ⟨b', off', h7, h8⟩ := h5 (ne_of_lt h6)
  cases h7
  refine ⟨b, off + k, rfl, fun j hj => ?_⟩
  rw [List.length_drop] at hj
  rw [Nat.add_assoc, h8 (k + j) (by omega), List.getElem_drop]
/-- 's[:k]' -/
theorem Sl.take {w : World} {a : Option Addr} {n cap : Nat} {xs : List Value} (h : Sl w (.slice a n cap) xs) (k : Nat) (hk : k ≤ n) : Sl w (.slice a k cap) (xs.take k) := by
  obtain ⟨a', cap', h1, h2, h3, h4, h5⟩ := h
  cases h1
  refine ⟨a, cap, by rw [List.length_take, Nat.min_eq_left hk], by rw [List.length_take]; omega, h3, h4, fun hne => ?_⟩
  obtain ⟨b, off, h6, h7⟩ := h5 (fun e => hne (by rw [e]; simp))
  refine ⟨b, off, h6, fun j hj => ?_⟩
  rw [List.length_take] at hj
  rw [h7 j (by omega), List.getElem_take]

theorem below_row {B base : Nat} {e : TypeId} {n : Nat} {v : Value} {xs : List Value} {a w w' : World} (h : Below B a w) (hown : w.ownsRow base e 1 v n xs) (hg : w.grownBy w' v.ownBlock) (hB : B ≤ w.heap.size) (hb : B ≤ base) : Below B a w' :=
  h.grown hg hB (fun k hk => by have := (hown.lt k hk).1; omega)
theorem kept_row {base : Nat} {e : TypeId} {n k : Nat} {v : Value} {xs : List Value} {w w' : World} {o : Obj} (hown : w.ownsRow base e 1 v n xs) (hg : w.grownBy w' v.ownBlock) (hk : k < base) (ho : w.heap[k]? = some o) : w'.heap[k]? = some o := by
  rw [hg.block k (Array.getElem?_eq_some_iff.1 ho).1 (fun e => by have := (hown.lt _ e.symm).1; omega)]; exact ho
theorem extract_end (s : ByteArray) (a : Nat) : (s.extract a s.size).data.toList = s.data.toList.drop a := by
  rw [Lib.extract_data, List.take_of_length_le]
  rw [List.length_drop]
  exact Nat.le_refl _
theorem Sl.lt {w : World} {v : Value} {xs : List Value} {a : Option Addr} {n cap : Nat} (h : Sl w v xs) (hv : v = .slice a n cap) : n = xs.length := by
  obtain ⟨_, _, h1, _⟩ := h
  rw [hv] at h1; cases h1; rfl

/-- A row in block b whose first cells read as xs and may be written. -/
def MutRow (w : World) (b : Nat) (xs : List Value) : Prop := ∀ j (h : j < xs.length), w.cell? ⟨b, j, none⟩ = some xs[j] ∧ w.frozen? ⟨b, j, none⟩ = false
theorem MutRow.at {w : World} {b : Nat} {xs : List Value} (h : MutRow w b xs) {k : Nat} {x : Value} (hx : xs[k]? = some x) : w.cell? ⟨b, k, none⟩ = some x ∧ w.frozen? ⟨b, k, none⟩ = false := by
  obtain ⟨hk, e⟩ := List.getElem?_eq_some_iff.1 hx
  have := h k hk
  rwa [e] at this
theorem MutRow.set {w : World} {b : Nat} {xs : List Value} (h : MutRow w b xs) {k : Nat} (hk : k < xs.length) (v : Value) : MutRow (w.setCell ⟨b, k, none⟩ v) b (xs.set k v) := by
  intro j hj
  rw [List.length_set] at hj
  refine ⟨?_, (World.frozen?_setCell _ _ _ _).trans (h j hj).2⟩
  by_cases e : k = j
  · subst e
    rw [World.cell?_setCell_same _ _ _ (h k hk).1]
    simp
  · rw [World.cell?_setCell_other _ _ _ _ (by simp), (h j hj).1, List.getElem_set_ne e]
theorem MutRow.sl {w : World} {b cap : Nat} {xs : List Value} (h : MutRow w b xs) (h1 : xs.length ≤ cap) (h2 : cap ≤ 9223372036854775807) : Sl w (.slice (some ⟨b, 0, none⟩) xs.length cap) xs :=
  ⟨_, _, rfl, h1, h2, (fun h => by cases h), fun _ => ⟨b, 0, rfl, fun j hj => by rw [Nat.zero_add]; exact (h j hj).1⟩⟩
theorem MutRow.bytes (w : World) (e : TypeId) (s : ByteArray) : MutRow (Lib.bytesWorld w e s) w.heap.size (u8s s.data.toList) := by
  intro j hj
  have hl : (u8s s.data.toList).length = s.size := by rw [u8s_length]; rfl
  have h1 := grownCap_ge w s.size 0 e
  refine ⟨?_, ?_⟩
  · rw [Lib.bytesWorld_cell w e s j (by omega)]
    have hj' : j < s.data.toList.length := by rw [hl] at hj; exact hj
    simp [u8s, Lib.byteCells, List.getD_eq_getElem?_getD, List.getElem?_eq_getElem hj']
  · unfold World.frozen?
    rw [Lib.bytesWorld_at_new]
    have : s.size ≤ (Lib.bytesCells w e s).size := by
      unfold Lib.bytesCells
      rw [Array.size_append, Array.size_map]
      exact Nat.le_add_right _ _
    simp
    omega

theorem i32_bounds {r : Int} (h : (Lit.int .i32 r).wf = true) : -2147483648 ≤ r ∧ r ≤ 2147483647 := by
  have h2 : IntKind.i32.min = -2147483648 := rfl
  have h3 : IntKind.i32.max = 2147483647 := rfl
  simp only [Lit.wf, Bool.and_eq_true, decide_eq_true_eq, h2, h3] at h
  exact h
theorem i64_bounds {r : Int} (h : (Lit.int .i64 r).wf = true) : -9223372036854775808 ≤ r ∧ r ≤ 9223372036854775807 := by
  have h2 : IntKind.i64.min = -9223372036854775808 := rfl
  have h3 : IntKind.i64.max = 9223372036854775807 := rfl
  simp only [Lit.wf, Bool.and_eq_true, decide_eq_true_eq, h2, h3] at h
  exact h
end Go.Proofs.Ytjelmpajphajfaa
