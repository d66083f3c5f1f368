/- Texts joined: Kit, Math1b, Ref01, Ref01b, Ref01c, Strs, Kit2, Ref02, Ref02b, Ref02c, Mem, Ref05, Ref05b, Ref05e, Kmp, Math5f, Math6. -/
import Derived.WalkKit
import Derived.WalkSpells
import Derived.WalkLawsBesides
import Derived.Lib.ConvBytes
import Derived.Lib.UnsafeStr
import Derived.Lib.OthersKept
import Derived.Lib.Hide
import Derived.Lib.Strings
import Derived.WalkSmall
import Derived.Laws.AppendOwnNone
import Derived.BigCall
import Derived.Deep.QuietTactic
import Derived.BigQuiet
import Derived.Deep.DeepCutAuto
import Derived.Lib.Bytealg
import Derived.Shelf.Strconv.Clone
import Derived.Test.YtbnfaijkmbgpmaaRows
import Derived.IntWalk
import Derived.Laws.AppendOwn
import Derived.Deep.CutBlock
import Derived.Test.YtbnfaijkmbgpmaaH1
/- Small words for slices that a call reads or makes, one cell an element; and what a conversion of a text leaves. -/
namespace Go.Proofs.Ytbnfaijkmbgpmaa
open Go.RowKit

theorem ne_of_lt {α : Type} {xs : List α} {k : Nat} (h : k < xs.length) : xs ≠ [] := fun e => by subst e; simp at h
/-- The slice v reads in w as xs (one cell an element). -/
def Sl (w : World) (v : Value) (xs : List Value) : Prop :=
  ∃ (a : Option Addr) (cap : Nat), v = .slice a xs.length cap ∧ xs.length ≤ cap ∧ cap ≤ 9223372036854775807 ∧ (a = none → cap = 0) ∧
    (xs ≠ [] → ∃ b off, a = some ⟨b, off, none⟩ ∧ ∀ j (h : j < xs.length), w.cell? ⟨b, off + j, none⟩ = some xs[j])

abbrev u8s (l : List UInt8) : List Value := Lib.byteCells l
theorem u8s_append (a b : List UInt8) : u8s (a ++ b) = u8s a ++ u8s b := Lib.byteCells_append a b
@[simp] theorem u8s_length (a : List UInt8) : (u8s a).length = a.length := Lib.byteCells_length a
theorem u8s_get (a : List UInt8) (k : Nat) (c : UInt8) (h : a[k]? = some c) : (u8s a)[k]? = some (.int .u8 (c.toNat : Int)) := by simp [u8s, Lib.byteCells, h]
theorem u8s_set (a : List UInt8) (k : Nat) (c : UInt8) : (u8s a).set k (.int .u8 (c.toNat : Int)) = u8s (a.set k c) := by simp [u8s, Lib.byteCells, List.map_set]
def i32s (l : List Int) : List Value := l.map (Value.int .i32)
@[simp] theorem i32s_length (l : List Int) : (i32s l).length = l.length := by simp [i32s]
theorem i32s_append (a b : List Int) : i32s (a ++ b) = i32s a ++ i32s b := by simp [i32s]

theorem Sl.below {w w' : World} {v : Value} {xs : List Value} (h : Sl w v xs) (hb : Below w.heap.size w w') : Sl w' v xs := by
  obtain ⟨a, cap, h1, h2, h3, h4, h5⟩ := h
  refine ⟨a, cap, h1, h2, h3, h4, fun hne => ?_⟩
  obtain ⟨b, off, h6, h7⟩ := h5 hne
  refine ⟨b, off, h6, fun j hj => ?_⟩
  have h8 := h7 j hj
  rw [hb.cell (World.block_lt_of_cell? w _ h8)]
  exact h8

theorem Sl.nil (w : World) : Sl w (.slice none 0 0) [] := ⟨none, 0, rfl, Nat.le_refl _, by omega, fun _ => rfl, fun h => absurd rfl h⟩

theorem Sl.own {w : World} {B : Nat} {e : TypeId} {v : Value} {n : Nat} {xs : List Value} (h : w.ownsRow B e 1 v n xs) : Sl w v xs := by
  have hn : xs.length = n := by have := h.1; omega
  have hc := fun g hg => h.cells (g := g) hg
  rcases h.2 with ⟨rfl, h0⟩ | ⟨g, cap, cur, rfl, _, hg, h1, h2, h3, h4⟩
  · have : xs = [] := List.eq_nil_of_length_eq_zero (by omega)
    subst this
    exact Sl.nil w
  · unfold maxLen at h2
    refine ⟨some ⟨g, 0, none⟩, cap, by rw [hn], by omega, by omega, (fun h => by cases h), fun _ => ⟨g, 0, rfl, fun j hj => ?_⟩⟩
    have h5 := hc g rfl j xs[j] (List.getElem?_eq_getElem hj)
    have hplain : (⟨g, 0, none⟩ : Addr).add j = ⟨g, 0 + j, none⟩ := by unfold Addr.add; split <;> simp_all
    rwa [hplain] at h5

/-- Behind '[]byte(s)'. -/
theorem Sl.bytes (w : World) (e : TypeId) (s : ByteArray) (hs : s.size ≤ 9223372036854775807) :
    Sl (Lib.bytesWorld w e s) (.slice (some ⟨w.heap.size, 0, none⟩) s.size (grownCap w s.size 0 e)) (u8s s.data.toList) := by
  have hl : (u8s s.data.toList).length = s.size := by rw [u8s, Lib.byteCells_length]; rfl
  have h1 := grownCap_ge w s.size 0 e
  have h2 := grownCap_le_maxLen w s.size 0 e (by unfold maxLen; omega)
  unfold maxLen at h2
  refine ⟨_, _, by rw [hl], by omega, by omega, (fun h => by cases h), fun _ => ⟨_, 0, rfl, fun j hj => ?_⟩⟩
  rw [Nat.zero_add, Lib.bytesWorld_cell w e s j (by omega)]
  have hj' : j < s.data.toList.length := by rw [hl] at hj; exact hj
  simp [u8s, Lib.byteCells, List.getD_eq_getElem?_getD, List.getElem?_eq_getElem hj']

theorem below_bytesWorld (w : World) (e : TypeId) (s : ByteArray) : Below w.heap.size w (Lib.bytesWorld w e s) :=
  ⟨by simp [Lib.bytesWorld, World.freeze, World.alloc, World.drew, -World.alloc_eq, -World.drew_eq], by simp [Lib.bytesWorld, World.freeze, World.alloc, World.drew, -World.alloc_eq, -World.drew_eq],
    by simp [Lib.bytesWorld, World.freeze, World.alloc, World.drew, -World.alloc_eq, -World.drew_eq], by rw [Lib.bytesWorld_size]; omega, fun k hk => Lib.bytesWorld_at_old w e s k hk⟩

/-- 'string(b)'. -/
theorem Sl.toString {P : Program} {w : World} {v : Value} {l : List UInt8} (h : Sl w v (u8s l)) (src dst e : TypeId) (hs : P.underlying src = some (.slice e)) (he : P.underlying e = some (.int .u8)) (hd : P.underlying dst = some .string) :
    (convert src dst v).run P w = .ok (.string ⟨l.toArray⟩) w := by
  obtain ⟨a, cap, rfl, h2, h3, h4, h5⟩ := h
  have hl : (u8s l).length = l.length := Lib.byteCells_length l
  cases a with
  | none =>
    have : l = [] := List.eq_nil_of_length_eq_zero (by have := h4 rfl; omega)
    subst this
    rw [run_convert_bytes_nil w src e hs he _ _ dst hd]
    rfl
  | some a =>
    rw [hl]
    refine run_convert_bytes_back w src dst e a cap l hs he hd fun j hj => ?_
    obtain ⟨b, off, h6, h7⟩ := h5 (fun h0 => by rw [h0] at hl; simp at hl; omega)
    cases h6
    have hplain : (⟨b, off, none⟩ : Addr).add j = ⟨b, off + j, none⟩ := by unfold Addr.add; split <;> simp_all
    rw [hplain, h7 j (by omega)]
    simp [u8s, Lib.byteCells]

/-- 'grownBy' from before a new block on. -/
theorem grownBy_of_alloc {w w2 : World} {o : Obj} {row : Option Nat} (h : (w.alloc o).grownBy w2 row) : w.grownBy w2 row :=
  ⟨h.os, h.tape, h.output, Nat.le_trans (by simp) h.size, fun k hk hne => by rw [h.block k (by simp; omega) hne]; exact Lib.alloc_old w o k hk⟩

/-- 'append(s, x)' of one element of one cell onto a row that the call owns. -/
theorem wpList_app1 {P : Program} {ops : Array Oper} {rest : List Oper} {o : Oper} {a : Act} {Q : Exit → Act → World → Prop} (w1 : World) (x : Value) (hgd : o.guard = none) (s y : Operand) (t e : TypeId)
    (ho : o.op = .call { callee := .builtin .append, args := #[s, y], argTypes := #[t, t] }) (base : Nat) {z : Value} {bytes : Nat} (ht : P.underlying t = some (.slice e))
    (hinfo : (P.info? e).map (fun i => (i.zero, i.size, i.bytes)) = some (some z, 1, bytes)) (hz : z.cells.size = 1)
    (v : Value) (n : Nat) (xs : List Value) (hs : a.eval s = v) (hown : w1.ownsRow base e 1 v n xs) (hx : a.eval y = .slice (some ⟨w1.heap.size, 0, none⟩) 1 1) (h1 : x.oneCell' = true)
    (h63 : n + 1 ≤ 9223372036854775807) (hbytes : (n + 1) * bytes ≤ 140737488355328) (hbase : base ≤ w1.heap.size)
    (h : ∀ v' w2, w2.ownsRow base e 1 v' (n + 1) (xs ++ [x]) → w1.grownBy w2 v.ownBlock → wpList P ops Q rest (a.put o.dst v') w2) : wpList P ops Q (o :: rest) a (w1.alloc (.cells #[x] e)) := by
  obtain ⟨i, hi, hz0, hz1, hz2⟩ := info_parts hinfo
  refine wpList_append_own _ hgd s y t ho base e i z 1 bytes ht hi hz0 hz1 hz2 hz (by decide) v n xs hs (hown.alloc _) ⟨w1.heap.size, 0, none⟩ 1 1 [x] hx rfl ?_ ?_ (by unfold maxLen; omega) hbytes (by simp; omega) ?_
  · intro j u hj
    match j, hj with
    | 0, hj => simp at hj; subst hj; simp [Addr.add]
  · intro u hu; simp at hu; subst hu; exact h1
  · intro v' w2 h2 h3 _
    exact h v' w2 h2 (grownBy_of_alloc h3)

/-- 'append(s, y...)' onto a row that the call owns; y reads as ys. -/
theorem wpList_appSl {P : Program} {ops : Array Oper} {rest : List Oper} {o : Oper} {a : Act} {Q : Exit → Act → World → Prop} (w1 : World) (hgd : o.guard = none) (s y : Operand) (t e : TypeId)
    (ho : o.op = .call { callee := .builtin .append, args := #[s, y], argTypes := #[t, t] }) (base : Nat) {z : Value} {bytes : Nat} (ht : P.underlying t = some (.slice e))
    (hinfo : (P.info? e).map (fun i => (i.zero, i.size, i.bytes)) = some (some z, 1, bytes)) (hz : z.cells.size = 1)
    (v : Value) (n : Nat) (xs : List Value) (hs : a.eval s = v) (hown : w1.ownsRow base e 1 v n xs) (yv : Value) (ys : List Value) (hy : a.eval y = yv) (hx : Sl w1 yv ys) (h1 : ∀ u ∈ ys, u.oneCell' = true)
    (h63 : n + ys.length ≤ 9223372036854775807) (hbytes : (n + ys.length) * bytes ≤ 140737488355328) (hbase : base ≤ w1.heap.size)
    (h : ∀ v' w2, w2.ownsRow base e 1 v' (n + ys.length) (xs ++ ys) → w1.grownBy w2 v.ownBlock → wpList P ops Q rest (a.put o.dst v') w2) : wpList P ops Q (o :: rest) a w1 := by
  obtain ⟨i, hi, hz0, hz1, hz2⟩ := info_parts hinfo
  obtain ⟨ad, cap, rfl, h2, h3, h4, h5⟩ := hx
  cases ad with
  | none =>
    have h6 := h4 rfl
    have h7 : ys = [] := List.eq_nil_of_length_eq_zero (by omega)
    subst h7
    subst h6
    refine wpList_append_own_none hgd s y t ho base e i 1 ht hi v n xs hs hown hy ?_
    have := h v w1 (by simpa using hown) ⟨rfl, rfl, rfl, Nat.le_refl _, fun _ _ _ => rfl⟩
    exact this
  | some ad =>
    refine wpList_append_own _ hgd s y t ho base e i z 1 bytes ht hi hz0 hz1 hz2 hz (by decide) v n xs hs hown ad ys.length cap ys hy (by omega) ?_ h1 (by unfold maxLen; omega) hbytes hbase ?_
    · intro j u hj
      obtain ⟨hj', e⟩ := List.getElem?_eq_some_iff.1 hj
      obtain ⟨b, off, h6, h7⟩ := h5 (ne_of_lt hj')
      cases h6
      have hplain : (⟨b, off, none⟩ : Addr).add j = ⟨b, off + j, none⟩ := by unfold Addr.add; split <;> simp_all
      rw [hplain, h7 j hj', e]
    · intro v' w2 h8 h9 _
      exact h v' w2 h8 h9

theorem owns_below {w w1 : World} {base : Nat} {e : TypeId} {v : Value} {n : Nat} {xs : List Value} (h : w.ownsRow base e 1 v n xs) (hb : Below w.heap.size w w1) : w1.ownsRow base e 1 v n xs :=
  h.kept (row := none) ⟨hb.os, hb.tape, hb.output, hb.size, fun k hk _ => hb.block k hk⟩ (by cases h : v.ownBlock <;> simp)
/-- 's[k:]' -/
theorem Sl.drop {w : World} {b off n cap : Nat} {xs : List Value} (h : Sl w (.slice (some ⟨b, off, none⟩) n cap) xs) (k : Nat) (hk : k ≤ n) : Sl w (.slice (some ⟨b, off + k, none⟩) (n - k) (cap - k)) (xs.drop k) := by
  obtain ⟨a, cap', h1, h2, h3, h4, h5⟩ := h
  cases h1
  refine ⟨some ⟨b, off + k, none⟩, cap - k, by rw [List.length_drop], by rw [List.length_drop]; omega, by omega, (fun h => by cases h), fun hne => ?_⟩
  have h6 : k < xs.length := by
    rcases Nat.lt_or_ge k xs.length with h6 | h6
    · exact h6
    · exact absurd (List.drop_of_length_le h6) hne
  obtain ⟨b', off', h7, h8⟩ := h5 (ne_of_lt h6)
  cases h7
  refine ⟨b, off + k, rfl, fun j hj => ?_⟩
  rw [List.length_drop] at hj
  rw [Nat.add_assoc, h8 (k + j) (by omega), List.getElem_drop]
/-- 's[:k]' -/
theorem Sl.take {w : World} {a : Option Addr} {n cap : Nat} {xs : List Value} (h : Sl w (.slice a n cap) xs) (k : Nat) (hk : k ≤ n) : Sl w (.slice a k cap) (xs.take k) := by
  obtain ⟨a', cap', h1, h2, h3, h4, h5⟩ := h
  cases h1
  refine ⟨a, cap, by rw [List.length_take, Nat.min_eq_left hk], by rw [List.length_take]; omega, h3, h4, fun hne => ?_⟩
  obtain ⟨b, off, h6, h7⟩ := h5 (fun e => hne (by rw [e]; simp))
  refine ⟨b, off, h6, fun j hj => ?_⟩
  rw [List.length_take] at hj
  rw [h7 j (by omega), List.getElem_take]

theorem below_row {B base : Nat} {e : TypeId} {n : Nat} {v : Value} {xs : List Value} {a w w' : World} (h : Below B a w) (hown : w.ownsRow base e 1 v n xs) (hg : w.grownBy w' v.ownBlock) (hB : B ≤ w.heap.size) (hb : B ≤ base) : Below B a w' :=
  h.grown hg hB (fun k hk => by have := (hown.lt k hk).1; omega)
theorem kept_row {base : Nat} {e : TypeId} {n k : Nat} {v : Value} {xs : List Value} {w w' : World} {o : Obj} (hown : w.ownsRow base e 1 v n xs) (hg : w.grownBy w' v.ownBlock) (hk : k < base) (ho : w.heap[k]? = some o) : w'.heap[k]? = some o := by
  rw [hg.block k (Array.getElem?_eq_some_iff.1 ho).1 (fun e => by have := (hown.lt _ e.symm).1; omega)]; exact ho
theorem extract_end (s : ByteArray) (a : Nat) : (s.extract a s.size).data.toList = s.data.toList.drop a := by
  rw [Lib.extract_data, List.take_of_length_le]
  rw [List.length_drop]
  exact Nat.le_refl _
theorem Sl.lt {w : World} {v : Value} {xs : List Value} {a : Option Addr} {n cap : Nat} (h : Sl w v xs) (hv : v = .slice a n cap) : n = xs.length := by
  obtain ⟨_, _, h1, _⟩ := h
  rw [hv] at h1; cases h1; rfl

/-- A row in block b whose first cells read as xs and may be written. -/
def MutRow (w : World) (b : Nat) (xs : List Value) : Prop := ∀ j (h : j < xs.length), w.cell? ⟨b, j, none⟩ = some xs[j] ∧ w.frozen? ⟨b, j, none⟩ = false
theorem MutRow.at {w : World} {b : Nat} {xs : List Value} (h : MutRow w b xs) {k : Nat} {x : Value} (hx : xs[k]? = some x) : w.cell? ⟨b, k, none⟩ = some x ∧ w.frozen? ⟨b, k, none⟩ = false := by
  obtain ⟨hk, e⟩ := List.getElem?_eq_some_iff.1 hx
  have := h k hk
  rwa [e] at this
theorem MutRow.set {w : World} {b : Nat} {xs : List Value} (h : MutRow w b xs) {k : Nat} (hk : k < xs.length) (v : Value) : MutRow (w.setCell ⟨b, k, none⟩ v) b (xs.set k v) := by
  intro j hj
  rw [List.length_set] at hj
  refine ⟨?_, (World.frozen?_setCell _ _ _ _).trans (h j hj).2⟩
  by_cases e : k = j
  · subst e
    rw [World.cell?_setCell_same _ _ _ (h k hk).1]
    simp
  · rw [World.cell?_setCell_other _ _ _ _ (by simp), (h j hj).1, List.getElem_set_ne e]
theorem MutRow.sl {w : World} {b cap : Nat} {xs : List Value} (h : MutRow w b xs) (h1 : xs.length ≤ cap) (h2 : cap ≤ 9223372036854775807) : Sl w (.slice (some ⟨b, 0, none⟩) xs.length cap) xs :=
  ⟨_, _, rfl, h1, h2, (fun h => by cases h), fun _ => ⟨b, 0, rfl, fun j hj => by rw [Nat.zero_add]; exact (h j hj).1⟩⟩
theorem MutRow.bytes (w : World) (e : TypeId) (s : ByteArray) : MutRow (Lib.bytesWorld w e s) w.heap.size (u8s s.data.toList) := by
  intro j hj
  have hl : (u8s s.data.toList).length = s.size := by rw [u8s_length]; rfl
  have h1 := grownCap_ge w s.size 0 e
  refine ⟨?_, ?_⟩
  · rw [Lib.bytesWorld_cell w e s j (by omega)]
    have hj' : j < s.data.toList.length := by rw [hl] at hj; exact hj
    simp [u8s, Lib.byteCells, List.getD_eq_getElem?_getD, List.getElem?_eq_getElem hj']
  · unfold World.frozen?
    rw [Lib.bytesWorld_at_new]
    have : s.size ≤ (Lib.bytesCells w e s).size := by
      unfold Lib.bytesCells
      rw [Array.size_append, Array.size_map]
      exact Nat.le_add_right _ _
    simp
    omega

theorem i32_bounds {r : Int} (h : (Lit.int .i32 r).wf = true) : -2147483648 ≤ r ∧ r ≤ 2147483647 := by
  have h2 : IntKind.i32.min = -2147483648 := rfl
  have h3 : IntKind.i32.max = 2147483647 := rfl
  simp only [Lit.wf, Bool.and_eq_true, decide_eq_true_eq, h2, h3] at h
  exact h
theorem i64_bounds {r : Int} (h : (Lit.int .i64 r).wf = true) : -9223372036854775808 ≤ r ∧ r ≤ 9223372036854775807 := by
  have h2 : IntKind.i64.min = -9223372036854775808 := rfl
  have h3 : IntKind.i64.max = 9223372036854775807 := rfl
  simp only [Lit.wf, Bool.and_eq_true, decide_eq_true_eq, h2, h3] at h
  exact h
end Go.Proofs.Ytbnfaijkmbgpmaa

/- Plain facts: the document's own way to tell the character that bytes begin with, held against 'dec'. -/
namespace Go.Proofs.Ytbnfaijkmbgpmaa
namespace M1

def foll (c : Nat) : Prop := 128 ≤ c ∧ c < 192
/-- How many bytes, what the first one gives, the least number. -/
def Cls (c n v least : Nat) : Prop := (192 ≤ c ∧ c < 224 ∧ n = 2 ∧ v + 192 = c ∧ least = 128) ∨ (224 ≤ c ∧ c < 240 ∧ n = 3 ∧ v + 224 = c ∧ least = 2048) ∨ (240 ≤ c ∧ c < 248 ∧ n = 4 ∧ v + 240 = c ∧ least = 65536)
def at_ (l : List UInt8) (k : Nat) : Nat := (l.getD k 0).toNat
theorem at_lt (l : List UInt8) (k : Nat) : at_ l k < 256 := (l.getD k 0).toNat_lt
/-- What the first k bytes give. -/
def vv (l : List UInt8) (v : Nat) : Nat → Nat
  | 0 => v
  | 1 => v
  | k + 2 => 64 * vv l v (k + 1) + at_ l (k + 1) - 128
def badv (v least : Nat) : Prop := v < least ∨ v > 1114111 ∨ (55296 ≤ v ∧ v ≤ 57343)
instance (v least : Nat) : Decidable (badv v least) := by unfold badv; infer_instance
instance (c : Nat) : Decidable (foll c) := by unfold foll; infer_instance

theorem dec_at (l : List UInt8) : dec l = if at_ l 0 < 0x80 then (at_ l 0, 1)
  else if at_ l 0 / 32 == 6 && (decide (1 < l.length) && at_ l 1 / 64 == 2) then
    if (at_ l 0 % 32) * 64 + at_ l 1 % 64 ≥ 0x80 then ((at_ l 0 % 32) * 64 + at_ l 1 % 64, 2) else (65533, 1)
  else if at_ l 0 / 16 == 14 && (decide (1 < l.length) && at_ l 1 / 64 == 2) && (decide (2 < l.length) && at_ l 2 / 64 == 2) then
    if (at_ l 0 % 16) * 4096 + (at_ l 1 % 64) * 64 + at_ l 2 % 64 ≥ 0x800 && decide (okRune ((at_ l 0 % 16) * 4096 + (at_ l 1 % 64) * 64 + at_ l 2 % 64 : Nat)) then
      ((at_ l 0 % 16) * 4096 + (at_ l 1 % 64) * 64 + at_ l 2 % 64, 3) else (65533, 1)
  else if at_ l 0 / 8 == 30 && (decide (1 < l.length) && at_ l 1 / 64 == 2) && (decide (2 < l.length) && at_ l 2 / 64 == 2) && (decide (3 < l.length) && at_ l 3 / 64 == 2) then
    if (at_ l 0 % 8) * 262144 + (at_ l 1 % 64) * 4096 + (at_ l 2 % 64) * 64 + at_ l 3 % 64 ≥ 0x10000 && decide (okRune ((at_ l 0 % 8) * 262144 + (at_ l 1 % 64) * 4096 + (at_ l 2 % 64) * 64 + at_ l 3 % 64 : Nat)) then
      ((at_ l 0 % 8) * 262144 + (at_ l 1 % 64) * 4096 + (at_ l 2 % 64) * 64 + at_ l 3 % 64, 4) else (65533, 1)
  else (65533, 1) := by
  simp only [← valid_iff]; rfl

theorem dec_low (l : List UInt8) (h : at_ l 0 < 128) : dec l = (at_ l 0, 1) := by rw [dec_at, if_pos h]

theorem dec_none (l : List UInt8) (h : 128 ≤ at_ l 0) (h2 : at_ l 0 < 192 ∨ 248 ≤ at_ l 0) : dec l = (65533, 1) := by
  have := at_lt l 0
  rw [dec_at, if_neg (by omega), if_neg (by simp; omega), if_neg (by simp; omega), if_neg (by simp; omega)]

theorem dec_short (l : List UInt8) {n v least : Nat} (h : Cls (at_ l 0) n v least) (h2 : l.length < n) : dec l = (65533, 1) := by
  rcases h with ⟨h3, h4, rfl, h5, rfl⟩ | ⟨h3, h4, rfl, h5, rfl⟩ | ⟨h3, h4, rfl, h5, rfl⟩
  all_goals rw [dec_at, if_neg (by omega), if_neg (by simp; omega), if_neg (by simp; omega), if_neg (by simp; omega)]

theorem dec_stop (l : List UInt8) {n v least : Nat} (h : Cls (at_ l 0) n v least) (k : Nat) (h1 : 1 ≤ k) (hk : k < n) (h2 : ¬ foll (at_ l k)) : dec l = (65533, 1) := by
  have hb := at_lt l k
  unfold foll at h2
  have h2' : ¬ at_ l k / 64 = 2 := by omega
  rcases h with ⟨h3, h4, rfl, h5, rfl⟩ | ⟨h3, h4, rfl, h5, rfl⟩ | ⟨h3, h4, rfl, h5, rfl⟩
  · obtain rfl : k = 1 := by omega
    rw [dec_at, if_neg (by omega), if_neg (by simp [h2']), if_neg (by simp; omega), if_neg (by simp; omega)]
  · rcases (by omega : k = 1 ∨ k = 2) with rfl | rfl
    all_goals rw [dec_at, if_neg (by omega), if_neg (by simp; omega), if_neg (by simp [h2']), if_neg (by simp; omega)]
  · rcases (by omega : k = 1 ∨ k = 2 ∨ k = 3) with rfl | rfl | rfl
    all_goals rw [dec_at, if_neg (by omega), if_neg (by simp; omega), if_neg (by simp; omega), if_neg (by simp [h2'])]

set_option maxRecDepth 10000 in
theorem dec_full (l : List UInt8) {n v least : Nat} (h : Cls (at_ l 0) n v least) (hl : n ≤ l.length) (hf : ∀ k, 1 ≤ k → k < n → foll (at_ l k)) : dec l = if badv (vv l v n) least then (65533, 1) else (vv l v n, n) := by
  have b1 := at_lt l 1
  have b2 := at_lt l 2
  have b3 := at_lt l 3
  rcases h with ⟨h3, h4, rfl, h5, rfl⟩ | ⟨h3, h4, rfl, h5, rfl⟩ | ⟨h3, h4, rfl, h5, rfl⟩
  · have f1 := hf 1 (by omega) (by omega)
    unfold foll at f1
    have e : vv l v 2 = (at_ l 0 % 32) * 64 + at_ l 1 % 64 := by
      have : vv l v 2 = 64 * v + at_ l 1 - 128 := rfl
      omega
    rw [dec_at, if_neg (by omega), if_pos (by simp; omega), e]
    by_cases hb : (at_ l 0 % 32) * 64 + at_ l 1 % 64 ≥ 128
    · rw [if_pos hb, if_neg (by unfold badv; omega)]
    · rw [if_neg hb, if_pos (by unfold badv; omega)]
  · have f1 := hf 1 (by omega) (by omega)
    have f2 := hf 2 (by omega) (by omega)
    unfold foll at f1 f2
    have e : vv l v 3 = (at_ l 0 % 16) * 4096 + (at_ l 1 % 64) * 64 + at_ l 2 % 64 := by
      have : vv l v 3 = 64 * (64 * v + at_ l 1 - 128) + at_ l 2 - 128 := rfl
      omega
    rw [dec_at, if_neg (by omega), if_neg (by simp; omega), if_pos (by simp; omega), e]
    generalize (at_ l 0 % 16) * 4096 + (at_ l 1 % 64) * 64 + at_ l 2 % 64 = x at *
    by_cases hb : badv x 2048
    · rw [if_pos hb, if_neg (by simp [okRune]; unfold badv at hb; omega)]
    · rw [if_neg hb, if_pos (by simp [okRune]; unfold badv at hb; omega)]
  · have f1 := hf 1 (by omega) (by omega)
    have f2 := hf 2 (by omega) (by omega)
    have f3 := hf 3 (by omega) (by omega)
    unfold foll at f1 f2 f3
    have e : vv l v 4 = (at_ l 0 % 8) * 262144 + (at_ l 1 % 64) * 4096 + (at_ l 2 % 64) * 64 + at_ l 3 % 64 := by
      have : vv l v 4 = 64 * (64 * (64 * v + at_ l 1 - 128) + at_ l 2 - 128) + at_ l 3 - 128 := rfl
      omega
    rw [dec_at, if_neg (by omega), if_neg (by simp; omega), if_neg (by simp; omega), if_pos (by simp; omega), e]
    generalize (at_ l 0 % 8) * 262144 + (at_ l 1 % 64) * 4096 + (at_ l 2 % 64) * 64 + at_ l 3 % 64 = x at *
    by_cases hb : badv x 65536
    · rw [if_pos hb, if_neg (by simp [okRune]; unfold badv at hb; omega)]
    · rw [if_neg hb, if_pos (by simp [okRune]; unfold badv at hb; omega)]

/-- Does a 13 stand right ahead of place k? -/
def prev (rs : List Int) : Nat → Bool
  | 0 => false
  | k + 1 => decide (rs.getD k 0 = 13)
/-- What 'mk' adds for one character. -/
def piece (x : Int) (p : Bool) : List Int := if x = 13 then [10] else if x = 10 ∧ p = true then [] else if x = 0 then [65533] else [x]
theorem mk_drop (rs : List Int) (k : Nat) (h : k < rs.length) : mk (prev rs k) (rs.drop k) = piece rs[k] (prev rs k) ++ mk (prev rs (k + 1)) (rs.drop (k + 1)) := by
  rw [List.drop_eq_getElem_cons h, mk]
  have : prev rs (k + 1) = decide (rs[k] = 13) := by simp [prev, List.getD_eq_getElem?_getD, List.getElem?_eq_getElem h]
  rw [this]; rfl

def sameB (a b : List Int) : Bool := decide (a = b)
theorem sameB_len {a b : List Int} (h : a.length ≠ b.length) : sameB a b = false := decide_eq_false (fun e => h (by rw [e]))
theorem sameB_at {a b : List Int} {k : Nat} (h : k < a.length) (h' : k < b.length) (hd : a[k] ≠ b[k]) : sameB a b = false := decide_eq_false (fun e => hd (by subst e; rfl))
theorem sameB_self (a : List Int) : sameB a a = true := decide_eq_true rfl
theorem sameB_yes {a b : List Int} (h : a.length = b.length) (hd : a.take a.length = b.take a.length) : sameB a b = true := by
  rw [List.take_length, h, List.take_length] at hd
  exact decide_eq_true hd
theorem take_step {a b : List Int} {k : Nat} (h : k < a.length) (h' : k < b.length) (ht : a.take k = b.take k) (he : a[k] = b[k]) : a.take (k + 1) = b.take (k + 1) := by
  rw [List.take_succ_eq_append_getElem h, List.take_succ_eq_append_getElem h', ht, he]
end M1
end Go.Proofs.Ytbnfaijkmbgpmaa

/- The document's answers of layer 1 (package strainerref01): what each call gives. -/
namespace Go.Proofs.Ytbnfaijkmbgpmaa
open Go.RowKit

set_option maxHeartbeats 1000000 in
theorem ref01Follows (c : Int) (w : World) (h0 : 0 ≤ c) (h1 : c ≤ 255) :
    Calls Try.prog 113 #[.int .u8 c] w fun e w' => e = .returned (.bool (decide (128 ≤ c ∧ c < 192))) ∧ w' = w := by
  by_cases h : 128 ≤ c ∧ c < 192
  · rw [decide_eq_true h]
    obtain ⟨h2, h3⟩ := h
    go_enter Try.func113, Try.ntmps113
    go_wp2
    go_ret
    exact ⟨rfl, rfl⟩
  · rw [decide_eq_false h]
    have h2 : c < 128 ∨ 192 ≤ c := by omega
    rcases h2 with h2 | h2
    · have hb : decide (128 ≤ c) = false := decide_eq_false (by omega)
      go_enter Try.func113, Try.ntmps113
      go_wp2
      go_ret
      exact ⟨rfl, rfl⟩
    · have hb : decide (c < 192) = false := decide_eq_false (by omega)
      go_enter Try.func113, Try.ntmps113
      go_wp2
      go_ret
      exact ⟨rfl, rfl⟩

set_option maxHeartbeats 2000000 in
set_option maxRecDepth 100000 in
theorem ref01One (v : Value) (l : List UInt8) (w : World) (hs : Sl w v (u8s l)) (hne : l ≠ []) :
    Calls Try.prog 93 #[v] w fun e w' => e = .returned (.tuple #[.int .i32 (M1.dec l).1, .int .i64 (M1.dec l).2]) ∧ w' = w := by
  obtain ⟨a, cap, rfl, h2, h3, h4, h5⟩ := hs
  have hpos := List.length_pos_iff.2 hne
  obtain ⟨b, off, rfl, h7⟩ := h5 (ne_of_lt (k := 0) (by simpa using hpos))
  rw [u8s_length] at *
  have hc : ∀ j, j < l.length → w.cell? ⟨b, off + j, none⟩ = some (.int .u8 (M1.at_ l j : Int)) := by
    intro j hj
    rw [h7 j (by simpa using hj)]
    simp [u8s, Lib.byteCells, M1.at_, List.getD_eq_getElem?_getD, List.getElem?_eq_getElem hj]
  have hc0 := hc 0 hpos
  rw [Nat.add_zero] at hc0
  have hb0 := M1.at_lt l 0
  clear h5 h7 h4
  by_cases hlow : M1.at_ l 0 < 128
  · rw [M1.dec_low l hlow]
    clear hc
    generalize M1.at_ l 0 = c at *
    go_enter Try.func93, Try.ntmps93
    go_wp2
    go_ret2
    exact ⟨rfl, rfl⟩
  by_cases hnone : M1.at_ l 0 < 192 ∨ 248 ≤ M1.at_ l 0
  · rw [M1.dec_none l (by omega) hnone]
    clear hc
    generalize M1.at_ l 0 = c at *
    rcases hnone with hnone | hnone
    all_goals
      go_enter Try.func93, Try.ntmps93
      go_wp2
      go_ret2
      exact ⟨rfl, rfl⟩
  have hcls : (192 ≤ M1.at_ l 0 ∧ M1.at_ l 0 < 224) ∨ (224 ≤ M1.at_ l 0 ∧ M1.at_ l 0 < 240) ∨ (240 ≤ M1.at_ l 0 ∧ M1.at_ l 0 < 248) := by omega
  go_enter Try.func93, Try.ntmps93
  go_upto_if 23 with fail
  go_cut [4, 5, 6, 7] (fun _ s5 s6 s7 wx => wx = w ∧ ∃ n v least : Nat, s5 = .int .i64 n ∧ s6 = .int .i64 v ∧ s7 = .int .i64 least ∧ M1.Cls (M1.at_ l 0) n v least)
  case first =>
    clear hc
    rcases hcls with ⟨k1, k2⟩ | ⟨k1, k2⟩ | ⟨k1, k2⟩
    · go_wp2
      go_meet
      exact ⟨rfl, 2, M1.at_ l 0 - 192, 128, rfl, by rw [Int.ofNat_sub k1]; rfl, rfl, by unfold M1.Cls; omega⟩
    · go_wp2
      go_meet
      exact ⟨rfl, 3, M1.at_ l 0 - 224, 2048, rfl, by rw [Int.ofNat_sub k1]; rfl, rfl, by unfold M1.Cls; omega⟩
    · go_wp2
      go_meet
      exact ⟨rfl, 4, M1.at_ l 0 - 240, 65536, rfl, by rw [Int.ofNat_sub k1]; rfl, rfl, by unfold M1.Cls; omega⟩
  case rest =>
    obtain ⟨rfl, n, v, least, rfl, rfl, rfl, hC⟩ := hcut
    have hn : 2 ≤ n ∧ n ≤ 4 ∧ v < 32 := by unfold M1.Cls at hC; omega
    clear hcls hnone hlow hc0
    by_cases hsh : l.length < n
    · have hd := Lib.hid (M1.dec_short l hC hsh)
      go_wp2
      go_ret2
      exact ⟨by rw [hd.out]; rfl, rfl⟩
    go_wp2
    go_loop [6, 8] (fun s6 i => ∃ k : Nat, 1 ≤ k ∧ k ≤ n ∧ i = .int .i64 k ∧ s6 = .int .i64 (M1.vv l v k) ∧ Hid (∀ j, 1 ≤ j → j < k → M1.foll (M1.at_ l j)) ∧ Hid ((k = 1 → M1.vv l v k < 32) ∧ (k = 2 → M1.vv l v k < 2048) ∧ (k = 3 → M1.vv l v k < 131072) ∧ (k = 4 → M1.vv l v k < 8388608))) (fun _ i => n - (intOf i).toNat)
    case atStart => exact ⟨1, by omega, by omega, rfl, rfl, fun j _ _ => by omega, ⟨fun _ => hn.2.2, by omega, by omega, by omega⟩⟩
    case round =>
      obtain ⟨k, hk1, hk2, rfl, rfl, hF, hV⟩ := hrel
      by_cases hlt : k < n
      · have hck := hc k (by omega)
        have hak := M1.at_lt l k
        have hvb : M1.vv l v k < 131072 := by have := hV.out; omega
        by_cases hfo : M1.foll (M1.at_ l k)
        · have hb : decide (128 ≤ (M1.at_ l k : Int) ∧ (M1.at_ l k : Int) < 192) = true := decide_eq_true (by unfold M1.foll at hfo; omega)
          have hF2 : Hid (∀ j, 1 ≤ j → j < k + 1 → M1.foll (M1.at_ l j)) := fun j h1 h2 => by
            by_cases e : j = k
            · rw [e]; exact hfo
            · exact hF.out j h1 (by omega)
          have hfo2 : 128 ≤ M1.at_ l k ∧ M1.at_ l k < 192 := hfo
          have hvs : Hid (M1.vv l v (k + 1) = 64 * M1.vv l v k + M1.at_ l k - 128) := by
            obtain ⟨k', rfl⟩ : ∃ k', k = k' + 1 := ⟨k - 1, by omega⟩
            exact rfl
          clear hc hfo
          go_wp2_with (go_at_call 113; refine (ref01Follows _ _ (by omega) (by omega)).mono ?_; rintro e w2 ⟨rfl, rfl⟩)
          go_round
          case rel =>
            refine ⟨k + 1, by omega, by omega, by go_num, ?_, hF2, ?_⟩
            · rw [hvs.out]; congr 1; omega
            · show _ ∧ _ ∧ _ ∧ _
              have := hV.out
              have := hvs.out
              refine ⟨?_, ?_, ?_, ?_⟩ <;> intro _ <;> omega
          case measure => simp [intOf]; omega
        · have hb : decide (128 ≤ (M1.at_ l k : Int) ∧ (M1.at_ l k : Int) < 192) = false := decide_eq_false (by unfold M1.foll at hfo; omega)
          have hd := Lib.hid (M1.dec_stop l hC k hk1 hlt hfo)
          clear hc hfo
          go_wp2_with (go_at_call 113; refine (ref01Follows _ _ (by omega) (by omega)).mono ?_; rintro e w2 ⟨rfl, rfl⟩)
          go_ret2
          exact ⟨by rw [hd.out]; rfl, rfl⟩
      · obtain rfl : k = n := by omega
        have hd := Lib.hid (M1.dec_full l hC (by omega) hF.out)
        have hvb : M1.vv l v k < 8388608 := by have := hV.out; omega
        clear hc hV hF
        by_cases hbad : M1.badv (M1.vv l v k) least
        · have hd2 := Lib.hid (hd.out.trans (if_pos hbad))
          clear hd
          unfold M1.badv at hbad
          generalize M1.vv l v k = x at *
          have hcase : x < least ∨ (least ≤ x ∧ 1114111 < x) ∨ (least ≤ x ∧ 55296 ≤ x ∧ x ≤ 57343) := by omega
          rcases hcase with c1 | ⟨c1, c2⟩ | ⟨c1, c2, c3⟩
          all_goals
            clear hbad
            go_wp2
            go_ret2
            exact ⟨by rw [hd2.out]; rfl, rfl⟩
        · have hd2 := Lib.hid (hd.out.trans (if_neg hbad))
          clear hd
          unfold M1.badv at hbad
          generalize M1.vv l v k = x at *
          have c1 : least ≤ x := by omega
          have c2 : x ≤ 1114111 := by omega
          have hcase : x < 55296 ∨ 57343 < x := by omega
          rcases hcase with c3 | c3
          · have hb : decide (55296 ≤ (x : Int)) = false := decide_eq_false (by omega)
            have hb2 : decide (55296 ≤ x) = false := decide_eq_false (by omega)
            clear hbad
            go_wp2
            go_ret2
            exact ⟨by rw [hd2.out]; rfl, rfl⟩
          · have hb : decide ((x : Int) ≤ 57343) = false := decide_eq_false (by omega)
            have hb2 : decide (x ≤ 57343) = false := decide_eq_false (by omega)
            clear hbad
            go_wp2
            go_ret2
            exact ⟨by rw [hd2.out]; rfl, rfl⟩

end Go.Proofs.Ytbnfaijkmbgpmaa

/- The document's answers of layer 1, the rest: characters, texts, made right, folded; lists held against one another. -/
namespace Go.Proofs.Ytbnfaijkmbgpmaa
open Go.RowKit

theorem info32' : (Try.prog.info? 21).map (fun i => (i.zero, i.size, i.bytes)) = some (some (.int .i32 0), 1, 4) := by kernel_rfl

theorem drop_ne' {l : List UInt8} {k : Nat} (h : k < l.length) : l.drop k ≠ [] := ne_of_lt (k := 0) (by rw [List.length_drop]; omega)

set_option maxHeartbeats 1000000 in
set_option maxRecDepth 100000 in
theorem ref01Runes (v : Value) (l : List UInt8) (w : World) (hs : Sl w v (u8s l)) (hl : l.length ≤ 1073741824) :
    Calls Try.prog 65 #[v] w fun e w' => ∃ v', e = .returned v' ∧ Sl w' v' (i32s (M1.runes l)) ∧ Below w.heap.size w w' := by
  have hs0 := hs
  obtain ⟨a, cap, rfl, h2, h3, h4, h5⟩ := hs
  rw [u8s_length] at *
  go_enter Try.func65, Try.ntmps65
  go_wp2
  go_loopw [3, 4] (fun v3 i wr => ∃ (pos : Nat) (acc : List Int), i = .int .i64 pos ∧ pos ≤ l.length ∧ wr.ownsRow w.heap.size 21 1 v3 acc.length (i32s acc) ∧ Below w.heap.size w wr ∧ Hid (M1.runes l = acc ++ M1.runes (l.drop pos)) ∧ acc.length ≤ pos) (fun _ i _ => l.length - (intOf i).toNat)
  case atStart => exact ⟨0, [], rfl, by omega, World.ownsRow_nil _ _ _ _, Below.refl _ _, rfl, by simp⟩
  case round =>
    obtain ⟨pos, acc, rfl, hpl, hown, hbw, hacc, hal⟩ := hrel
    by_cases hp : pos < l.length
    · obtain ⟨b, off, rfl, h7⟩ := h5 (ne_of_lt (k := pos) (by simpa using hp))
      have hne := drop_ne' hp
      have hd := (hs0.below hbw).drop pos (by omega)
      have hO := ref01One _ (l.drop pos) wr (by rw [show u8s (l.drop pos) = (u8s l).drop pos by simp [u8s, Lib.byteCells, List.map_drop]]; exact hd) hne
      have hst0 := M1.runes_step _ hne
      have hw1 := M1.dec_pos _ hne
      have hw2 := M1.dec_le _ hne
      have hlt := M1.dec_lt (l.drop pos)
      rw [List.drop_drop] at hst0
      rw [List.length_drop] at hw2
      generalize (M1.dec (l.drop pos)).1 = r at *
      generalize (M1.dec (l.drop pos)).2 = wd at *
      have hst := Lib.hid hst0
      have hO := Lib.hid hO
      clear hst0 h5 h7 hd hs0 h4
      go_wp2_with (first | (go_at_call 93; refine hO.out.mono ?_; rintro e w2 ⟨rfl, rfl⟩) | (at_builtin; refine wpList_app1 _ _ rfl _ _ 70 21 rfl w.heap.size Try.underlying70 info32' rfl _ _ _ rfl hown rfl rfl ?c1 ?c2 ?c3 ?_))
      case c1 => omega
      case c2 => omega
      case c3 => exact hbw.size
      intro v' w2 hown2 hgrow
      go_wp2
      go_roundw
      case rel =>
        refine ⟨pos + wd, acc ++ [(r : Int)], by go_num, by omega, ?_, below_row hbw hown hgrow hbw.size (Nat.le_refl _), ?_, by simp; omega⟩
        · rw [i32s_append, List.length_append]; exact hown2
        · show _ = _
          rw [hacc.out, hst.out]; simp
      case measure => simp [intOf]; omega
    · clear h5 h4 hs0
      have h := hacc.out
      rw [List.drop_of_length_le (by omega), M1.runes_nil, List.append_nil] at h
      have h := Lib.hid h
      go_wp2
      go_ret
      exact ⟨_, rfl, by rw [h.out]; exact Sl.own hown, hbw⟩

theorem Sl.fresh (w : World) (e : TypeId) (xs : List Value) (n : Nat) (hn : xs.length = n) (h : n ≤ 4) : Sl (w.alloc (.cells xs.toArray e)) (.slice (some ⟨w.heap.size, 0, none⟩) n n) xs := by
  subst hn
  refine ⟨_, xs.length, rfl, Nat.le_refl _, by omega, (fun h => by cases h), fun _ => ⟨_, 0, rfl, fun j hj => ?_⟩⟩
  rw [Nat.zero_add, World.cell?_alloc_at _ _ _ _ rfl]
  simp [hj]

set_option maxHeartbeats 2000000 in
set_option maxRecDepth 100000 in
theorem ref01Bytes (r : Int) (w : World) (h0 : -2147483648 ≤ r) (h1 : r ≤ 2147483647) :
    Calls Try.prog 94 #[.int .i32 r] w fun e w' => ∃ v', e = .returned v' ∧ Sl w' v' (Lib.runeCells r) ∧ Below w.heap.size w w' := by
  have hfr := fun xs n hn h => Sl.fresh w 5 xs n hn h
  have hbl := fun o => (Below.refl w.heap.size w).alloc (Nat.le_refl _) o
  have hfr := Lib.hid hfr
  have hbl := Lib.hid hbl
  by_cases c1 : 0 ≤ r ∧ r ≤ 127
  · obtain ⟨c1, c2⟩ := c1
    have e : Lib.runeCells r = [.int .u8 r] := by simp [Lib.runeCells, Lib.encodeRuneZ_one c1 c2]
    rw [e]
    clear e
    go_enter Try.func94, Try.ntmps94
    go_wp2
    go_ret
    exact ⟨_, rfl, hfr.out _ 1 rfl (by omega), hbl.out _⟩
  by_cases c2 : 128 ≤ r ∧ r ≤ 2047
  · obtain ⟨c2, c3⟩ := c2
    have e : Lib.runeCells r = [.int .u8 (192 + r / 64), .int .u8 (128 + r % 64)] := by simp [Lib.runeCells, Lib.encodeRuneZ_two c2 c3]
    rw [e]
    clear e
    go_enter Try.func94, Try.ntmps94
    go_wp2
    go_ret
    exact ⟨_, rfl, hfr.out _ 2 rfl (by omega), hbl.out _⟩
  by_cases c3 : 2048 ≤ r ∧ r < 55296
  · obtain ⟨c3, c4⟩ := c3
    have e : Lib.runeCells r = [.int .u8 (224 + r / 4096), .int .u8 (128 + r / 64 % 64), .int .u8 (128 + r % 64)] := by simp [Lib.runeCells, Lib.encodeRuneZ_three (r := r) (by omega)]
    rw [e]
    clear e
    go_enter Try.func94, Try.ntmps94
    go_wp2
    go_ret
    exact ⟨_, rfl, hfr.out _ 3 rfl (by omega), hbl.out _⟩
  by_cases c4 : 57343 < r ∧ r ≤ 65535
  · obtain ⟨c4, c5⟩ := c4
    have e : Lib.runeCells r = [.int .u8 (224 + r / 4096), .int .u8 (128 + r / 64 % 64), .int .u8 (128 + r % 64)] := by simp [Lib.runeCells, Lib.encodeRuneZ_three (r := r) (by omega)]
    have hb : decide (r ≤ 57343) = false := decide_eq_false (by omega)
    rw [e]
    clear e
    go_enter Try.func94, Try.ntmps94
    go_wp2
    go_ret
    exact ⟨_, rfl, hfr.out _ 3 rfl (by omega), hbl.out _⟩
  by_cases c5 : 65536 ≤ r ∧ r ≤ 1114111
  · obtain ⟨c5, c6⟩ := c5
    have e : Lib.runeCells r = [.int .u8 (240 + r / 262144), .int .u8 (128 + r / 4096 % 64), .int .u8 (128 + r / 64 % 64), .int .u8 (128 + r % 64)] := by simp [Lib.runeCells, Lib.encodeRuneZ_four c5 c6]
    have hb : decide (r ≤ 57343) = false := decide_eq_false (by omega)
    rw [e]
    clear e
    go_enter Try.func94, Try.ntmps94
    go_wp2
    go_ret
    exact ⟨_, rfl, hfr.out _ 4 rfl (by omega), hbl.out _⟩
  have e : Lib.runeCells r = [.int .u8 239, .int .u8 191, .int .u8 189] := by simp [Lib.runeCells, Lib.encodeRuneZ_bad (r := r) (by omega)]
  rw [e]
  clear e
  have hc : r < 0 ∨ 1114111 < r ∨ (55296 ≤ r ∧ r ≤ 57343) := by omega
  clear c1 c2 c3 c4 c5
  rcases hc with hc | hc | ⟨hc, hc2⟩
  all_goals
    go_enter Try.func94, Try.ntmps94
    go_wp2
    go_ret
    exact ⟨_, rfl, hfr.out _ 3 rfl (by omega), hbl.out _⟩

theorem runeCells_one (r : Int) : ∀ u ∈ Lib.runeCells r, u.oneCell' = true := by
  intro u hu
  simp only [Lib.runeCells, List.mem_map] at hu
  obtain ⟨x, _, rfl⟩ := hu
  rfl

set_option maxHeartbeats 1000000 in
set_option maxRecDepth 100000 in
theorem ref01Text (v : Value) (rs : List Int) (w : World) (hs : Sl w v (i32s rs)) (hr : ∀ r ∈ rs, -2147483648 ≤ r ∧ r ≤ 2147483647) (hl : rs.length ≤ 1073741824) :
    Calls Try.prog 66 #[v] w fun e w' => e = .returned (.string ⟨(M1.text rs).toArray⟩) ∧ Below w.heap.size w w' := by
  obtain ⟨a, cap, rfl, h2, h3, h4, h5⟩ := hs
  rw [i32s_length] at *
  go_enter Try.func66, Try.ntmps66
  go_wp2
  go_loopw [3, 4] (fun v3 i wr => ∃ k : Nat, i = .int .i64 k ∧ k ≤ rs.length ∧ wr.ownsRow w.heap.size 5 1 v3 (M1.text (rs.take k)).length (u8s (M1.text (rs.take k))) ∧ Below w.heap.size w wr) (fun _ i _ => rs.length - (intOf i).toNat)
  case atStart => exact ⟨0, rfl, by omega, World.ownsRow_nil _ _ _ _, Below.refl _ _⟩
  case round =>
    obtain ⟨k, rfl, hk, hown, hbw⟩ := hrel
    have htl := M1.text_len_le (rs.take k)
    have htk : (rs.take k).length ≤ k := List.length_take_le _ _
    by_cases hlt : k < rs.length
    · obtain ⟨b, off, rfl, h7⟩ := h5 (ne_of_lt (k := k) (by simpa using hlt))
      have h8 := h7 k (by simpa using hlt)
      have h9 := World.block_lt_of_cell? w _ h8
      have hc : wr.cell? ⟨b, off + k, none⟩ = some (.int .i32 rs[k]) := by
        rw [hbw.cell h9, h8]; simp [i32s]
      have hrk := hr rs[k] (List.getElem_mem hlt)
      have htk1 := Lib.hid (List.take_succ_eq_append_getElem hlt)
      have hl4 := Lib.runeCells_le rs[k]
      have hco := Lib.hid (runeCells_one rs[k])
      clear h5 h7 h8
      generalize rs[k] = r at *
      go_wp2_with fail
      refine (ref01Bytes r _ hrk.1 hrk.2).mono ?_
      rintro e w1 ⟨y, rfl, hy, hb1⟩
      have hown1 := owns_below hown hb1
      have hs1 := hb1.size
      have hs2 := hbw.size
      go_wp2_with (at_builtin; refine wpList_appSl _ rfl _ _ 55 5 rfl w.heap.size Try.underlying55 infoU8 rfl _ _ _ rfl hown1 _ _ rfl hy hco.out (by omega) (by omega) (by have := hbw.size; omega) ?_)
      intro v' w2 hown2 hgrow
      go_wp2
      go_roundw
      case rel =>
        have e : u8s (M1.text [r]) = Lib.runeCells r := by
          rw [show M1.text [r] = Lib.encodeRune r by simp [M1.text]]; exact Lib.byteCells_encodeRune r
        have e2 : (M1.text [r]).length = (Lib.runeCells r).length := by rw [← e, u8s_length]
        refine ⟨k + 1, by go_num, by omega, ?_, below_row (hbw.trans (hb1.mono hs2)) hown1 hgrow (by omega) (Nat.le_refl _)⟩
        rw [htk1.out, M1.text_append, u8s_append, e, List.length_append, e2]
        exact hown2
      case measure => simp [intOf]; omega
    · clear h5 h4
      have hcv := (Sl.own hown).toString 55 9 5 Try.underlying55 Try.underlying5 Try.underlying9
      go_wp2
      go_ret
      rw [List.take_of_length_le (by omega)]
      exact ⟨rfl, hbw⟩

end Go.Proofs.Ytbnfaijkmbgpmaa

/- The document's answers of layer 1, the rest: made right, folded; lists held against one another. -/
namespace Go.Proofs.Ytbnfaijkmbgpmaa
open Go.RowKit

set_option maxHeartbeats 2000000 in
set_option maxRecDepth 100000 in
theorem ref01Right (v : Value) (l : List UInt8) (w : World) (hs : Sl w v (u8s l)) (hl : l.length ≤ 268435456) :
    Calls Try.prog 48 #[v] w fun e w' => e = .returned (.string ⟨(M1.right l).toArray⟩) ∧ Below w.heap.size w w' := by
  have hrl := M1.runes_len l.length l (Nat.le_refl _)
  have hml := M1.mk_len (M1.runes l) false
  have hok := Lib.hid (M1.right_ok l)
  go_enter Try.func48, Try.ntmps48
  go_wp2_with fail
  refine (ref01Runes v l w hs (by omega)).mono ?_
  rintro e w0 ⟨v0, rfl, hs0, hb0⟩
  have hr : Hid (M1.right l = M1.text (M1.mk false (M1.runes l))) := rfl
  generalize M1.runes l = rs at *
  have hs00 := hs0
  obtain ⟨a, cap, rfl, h2, h3, h4, h5⟩ := hs0
  rw [i32s_length] at *
  have hz0 := hb0.size
  go_wp2
  go_loopw [4, 5] (fun v4 i wr => ∃ (k : Nat) (acc : List Int), i = .int .i64 k ∧ k ≤ rs.length ∧ acc.length ≤ k ∧ wr.ownsRow w0.heap.size 21 1 v4 acc.length (i32s acc) ∧ Below w0.heap.size w0 wr ∧ Hid (M1.mk false rs = acc ++ M1.mk (M1.prev rs k) (rs.drop k))) (fun _ i _ => rs.length - (intOf i).toNat)
  case atStart => exact ⟨0, [], rfl, by omega, by simp, World.ownsRow_nil _ _ _ _, Below.refl _ _, rfl⟩
  case round =>
    obtain ⟨k, acc, rfl, hk, hak, hown, hbw, hacc⟩ := hrel
    by_cases hlt : k < rs.length
    · obtain ⟨b, off, rfl, h7⟩ := h5 (ne_of_lt (k := k) (by simpa using hlt))
      have hcell : ∀ j, (hj : j < rs.length) → wr.cell? ⟨b, off + j, none⟩ = some (.int .i32 rs[j]) := fun j hj => by
        have h8 := h7 j (by simpa using hj)
        rw [hbw.cell (World.block_lt_of_cell? w0 _ h8), h8]; simp [i32s]
      have hc := hcell k hlt
      have hd := M1.mk_drop rs k hlt
      have hacc1 := Lib.hid (hacc.out.trans (congrArg (acc ++ ·) hd))
      have hx := Lib.hid (rfl : M1.piece rs[k] (M1.prev rs k) = M1.piece rs[k] (M1.prev rs k))
      have fin0 : ∀ (y : Int) (w2 : World) (v2 : Value), M1.piece rs[k] (M1.prev rs k) = [y] → w2.ownsRow w0.heap.size 21 1 v2 (acc.length + 1) (i32s acc ++ [.int .i32 y]) → wr.grownBy w2 u4.ownBlock →
          ∃ (k' : Nat) (acc' : List Int), Value.int .i64 ((k : Int) + 1) = .int .i64 k' ∧ k' ≤ rs.length ∧ acc'.length ≤ k' ∧ w2.ownsRow w0.heap.size 21 1 v2 acc'.length (i32s acc') ∧ Below w0.heap.size w0 w2 ∧ Hid (M1.mk false rs = acc' ++ M1.mk (M1.prev rs k') (rs.drop k')) := by
        intro y w2 v2 hp ho hg
        refine ⟨k + 1, acc ++ [y], by go_num, by omega, by simp; omega, ?_, below_row hbw hown hg hbw.size (Nat.le_refl _), ?_⟩
        · rw [i32s_append, List.length_append]; exact ho
        · show _ = _
          rw [hacc1.out, hp, List.append_assoc]
      have fin := Lib.hid fin0
      clear h5 h7 hd h4 hacc fin0 hx
      have hbz := hbw.size
      by_cases h13 : rs[k] = 13
      · have hp : M1.piece rs[k] (M1.prev rs k) = [10] := by rw [M1.piece, if_pos h13]
        have hp := Lib.hid hp
        rw [h13] at hc
        clear h13 hcell
        go_wp2_with (at_builtin; refine wpList_app1 _ _ rfl _ _ 70 21 rfl w0.heap.size Try.underlying70 info32' rfl _ _ _ rfl hown rfl rfl (by omega) (by omega) (by have := hbw.size; omega) ?_)
        intro v' w2 hown2 hgrow
        go_wp2
        go_roundw
        case rel => exact fin.out _ _ _ hp.out hown2 hgrow
        case measure => simp [intOf]; omega
      by_cases h10 : rs[k] = 10
      · rw [h10] at hc
        by_cases hk0 : k = 0
        · subst hk0
          have hp : M1.piece rs[0] (M1.prev rs 0) = [10] := by rw [M1.piece, if_neg h13, if_neg (by simp [M1.prev]), if_neg (by omega), h10]
          have hp := Lib.hid hp
          have hak' : acc.length ≤ 1 := by omega
          have hc : wr.cell? ⟨b, off, none⟩ = some (.int .i32 10) := hc
          clear h13 h10 hcell hak
          go_wp2_with (at_builtin; refine wpList_app1 _ _ rfl _ _ 70 21 rfl w0.heap.size Try.underlying70 info32' rfl _ _ _ rfl hown rfl rfl (by omega) (by omega) (by have := hbw.size; omega) ?_)
          intro v' w2 hown2 hgrow
          go_wp2
          go_roundw
          case rel => exact fin.out _ _ _ hp.out hown2 hgrow
          case measure => simp [intOf]; omega
        · obtain ⟨j, rfl⟩ : ∃ j, k = j + 1 := ⟨k - 1, by omega⟩
          have hcj := hcell j (by omega)
          by_cases hj : rs[j]'(by omega) = 13
          · have hp : M1.piece rs[j + 1] (M1.prev rs (j + 1)) = [] := by
              have hpv : M1.prev rs (j + 1) = true := by simp [M1.prev, List.getD_eq_getElem?_getD, List.getElem?_eq_getElem (show j < rs.length by omega), hj]
              rw [M1.piece, if_neg h13, if_pos ⟨h10, hpv⟩]
            have hr2 : Hid (M1.mk false rs = acc ++ M1.mk (M1.prev rs (j + 1 + 1)) (rs.drop (j + 1 + 1))) := by
              show _ = _
              rw [hacc1.out, hp, List.nil_append]
            rw [hj] at hcj
            clear h13 h10 hcell hj fin
            go_wp2
            go_roundw
            case rel => exact ⟨j + 1 + 1, acc, by go_num, by omega, by omega, hown, hbw, hr2⟩
            case measure => simp [intOf]; omega
          · have hp : M1.piece rs[j + 1] (M1.prev rs (j + 1)) = [10] := by
              rw [M1.piece, if_neg h13, if_neg ?_, if_neg (by omega), h10]
              intro h
              have h2 := h.2
              simp [M1.prev, List.getD_eq_getElem?_getD, List.getElem?_eq_getElem (show j < rs.length by omega)] at h2
              exact hj h2
            have hp := Lib.hid hp
            generalize rs[j]'(by omega) = y at *
            have hyb : (y == 13) = false := by simpa using hj
            clear h13 h10 hcell hj
            go_wp2_with (at_builtin; refine wpList_app1 _ _ rfl _ _ 70 21 rfl w0.heap.size Try.underlying70 info32' rfl _ _ _ rfl hown rfl rfl (by omega) (by omega) (by have := hbw.size; omega) ?_)
            intro v' w2 hown2 hgrow
            go_wp2
            go_roundw
            case rel => exact fin.out _ _ _ hp.out hown2 hgrow
            case measure => simp [intOf]; omega
      by_cases h0 : rs[k] = 0
      · have hp : M1.piece rs[k] (M1.prev rs k) = [65533] := by rw [M1.piece, if_neg h13, if_neg (fun h => h10 h.1), if_pos h0]
        have hp := Lib.hid hp
        rw [h0] at hc
        clear h13 h10 hcell
        go_wp2_with (at_builtin; refine wpList_app1 _ _ rfl _ _ 70 21 rfl w0.heap.size Try.underlying70 info32' rfl _ _ _ rfl hown rfl rfl (by omega) (by omega) (by have := hbw.size; omega) ?_)
        intro v' w2 hown2 hgrow
        go_wp2
        go_roundw
        case rel => exact fin.out _ _ _ hp.out hown2 hgrow
        case measure => simp [intOf]; omega
      have hp : M1.piece rs[k] (M1.prev rs k) = [rs[k]] := by rw [M1.piece, if_neg h13, if_neg (fun h => h10 h.1), if_neg h0]
      have hp := Lib.hid hp
      generalize rs[k] = x at *
      have h13b : (x == 13) = false := by simpa using h13
      have h10b : (x == 10) = false := by simpa using h10
      have h0b : (x == 0) = false := by simpa using h0
      clear h13 h10 h0 hcell
      go_wp2_with (at_builtin; refine wpList_app1 _ _ rfl _ _ 70 21 rfl w0.heap.size Try.underlying70 info32' rfl _ _ _ rfl hown rfl rfl (by omega) (by omega) (by have := hbw.size; omega) ?_)
      intro v' w2 hown2 hgrow
      go_wp2
      go_roundw
      case rel => exact fin.out _ _ _ hp.out hown2 hgrow
      case measure => simp [intOf]; omega
    · clear h5 h4
      have h := hacc.out
      rw [List.drop_of_length_le (by omega), M1.mk, List.append_nil] at h
      go_wp2_with fail
      refine (ref01Text _ acc _ (Sl.own hown) ?_ (by omega)).mono ?_
      · intro r hr
        rw [← h] at hr
        have := (hok.out r hr).1
        unfold M1.okRune at this
        omega
      rintro e w1 ⟨rfl, hb1⟩
      go_wp2
      go_ret
      rw [hr.out, h]
      exact ⟨rfl, (hb0.trans (hbw.mono hz0)).trans (hb1.mono (by have := hbw.size; omega))⟩

set_option maxHeartbeats 1000000 in
set_option maxRecDepth 100000 in
theorem ref01Is (s : ByteArray) (w : World) (hs : s.size ≤ 268435456) :
    Calls Try.prog 78 #[.string s] w fun e w' => e = .returned (.bool (M1.isB s.data.toList)) ∧ Below w.heap.size w w' := by
  have hcv := Lib.run_convert_string_bytes (P := Try.prog) w 9 55 5 s Try.underlying9 Try.underlying55 Try.underlying5
  have hS := Sl.bytes w 5 s (by omega)
  have hB := below_bytesWorld w 5 s
  generalize grownCap w s.size 0 5 = cap at *
  generalize Lib.bytesWorld w 5 s = w0 at *
  have hz := hB.size
  have hi := M1.isB_right_iff s.data.toList
  go_enter Try.func78, Try.ntmps78
  go_wp2_with fail
  refine (ref01Right _ s.data.toList w0 hS (show s.data.toList.length ≤ 268435456 from hs)).mono ?_
  rintro e w1 ⟨rfl, hb1⟩
  go_wp2
  go_ret
  refine ⟨?_, hB.trans (hb1.mono hz)⟩
  have e : (M1.right s.data.toList == s.data.toList) = M1.isB s.data.toList := by
    rw [Bool.eq_iff_iff, beq_iff_eq]; exact hi.symm
  rw [← e]
  simp [ByteArray.toList_eq]

set_option maxHeartbeats 1000000 in
set_option maxRecDepth 100000 in
theorem ref01Fold (s : ByteArray) (w : World) (hs : s.size ≤ 1073741824) :
    Calls Try.prog 53 #[.string s] w fun e w' => e = .returned (.string ⟨(M1.fold s.data.toList).toArray⟩) ∧ Below w.heap.size w w' := by
  go_enter Try.func53, Try.ntmps53
  go_wp2
  go_loopw [3, 4] (fun v3 i wr => ∃ (k : Nat), i = .int .i64 k ∧ k ≤ s.size ∧ wr.ownsRow w.heap.size 5 1 v3 k (u8s (M1.fold (s.data.toList.take k))) ∧ Below w.heap.size w wr) (fun _ i _ => s.size - (intOf i).toNat)
  case atStart => exact ⟨0, rfl, by omega, World.ownsRow_nil _ _ _ _, Below.refl _ _⟩
  case round =>
    obtain ⟨k, rfl, hk, hown, hbw⟩ := hrel
    by_cases hlt : k < s.size
    · have hls : k < s.data.toList.length := hlt
      have hbz := hbw.size
      have e1 := Lib.hid (List.take_succ_eq_append_getElem (l := s.data.toList) hls)
      have hsm := M1.small_nat s[k]
      have hcl := s[k].toNat_lt
      have hcl : s[k].toNat < 256 := hcl
      by_cases hup : 65 ≤ s[k].toNat ∧ s[k].toNat ≤ 90
      · rw [if_pos hup] at hsm
        have hsm := Lib.hid hsm
        obtain ⟨h1, h2⟩ := hup
        go_wp2_with (at_builtin; refine wpList_app1 _ _ rfl _ _ 55 5 rfl w.heap.size Try.underlying55 infoU8 rfl _ _ _ rfl hown rfl rfl (by omega) (by omega) (by have := hbw.size; omega) ?_)
        intro v' w2 hown2 hgrow
        go_wp2
        go_roundw
        case rel =>
          refine ⟨k + 1, by go_num, by omega, ?_, below_row hbw hown hgrow hbz (Nat.le_refl _)⟩
          rw [e1.out, M1.fold, List.map_append, u8s_append]
          have e3 : u8s (List.map M1.small [s.data.toList[k]]) = [.int .u8 ((s[k].toNat : Int) + 32)] := by
            show [Value.int .u8 ((M1.small s[k]).toNat : Int)] = _
            rw [hsm.out]; rfl
          rw [e3]; exact hown2
        case measure => simp [intOf]; omega
      · rw [if_neg hup] at hsm
        have hsm := Lib.hid hsm
        have hup2 : s[k].toNat < 65 ∨ 90 < s[k].toNat := by omega
        clear hup
        have hadd : ∀ v2 w2, World.ownsRow w2 w.heap.size 5 1 v2 (k + 1) (u8s (M1.fold (s.data.toList.take k)) ++ [.int .u8 (s[k].toNat : Int)]) → World.ownsRow w2 w.heap.size 5 1 v2 (k + 1) (u8s (M1.fold (s.data.toList.take (k + 1)))) := by
          intro v2 w2 h
          rw [e1.out, M1.fold, List.map_append, u8s_append]
          have e3 : u8s (List.map M1.small [s.data.toList[k]]) = [.int .u8 (s[k].toNat : Int)] := by
            show [Value.int .u8 ((M1.small s[k]).toNat : Int)] = _
            rw [hsm.out]
          rw [e3]; exact h
        have hadd := Lib.hid hadd
        rcases hup2 with hup | hup
        · go_wp2_with (at_builtin; refine wpList_app1 _ _ rfl _ _ 55 5 rfl w.heap.size Try.underlying55 infoU8 rfl _ _ _ rfl hown rfl rfl (by omega) (by omega) (by have := hbw.size; omega) ?_)
          intro v' w2 hown2 hgrow
          go_wp2
          go_roundw
          case rel => exact ⟨k + 1, by go_num, by omega, hadd.out _ _ hown2, below_row hbw hown hgrow hbz (Nat.le_refl _)⟩
          case measure => simp [intOf]; omega
        · go_wp2_with (at_builtin; refine wpList_app1 _ _ rfl _ _ 55 5 rfl w.heap.size Try.underlying55 infoU8 rfl _ _ _ rfl hown rfl rfl (by omega) (by omega) (by have := hbw.size; omega) ?_)
          intro v' w2 hown2 hgrow
          go_wp2
          go_roundw
          case rel => exact ⟨k + 1, by go_num, by omega, hadd.out _ _ hown2, below_row hbw hown hgrow hbz (Nat.le_refl _)⟩
          case measure => simp [intOf]; omega
    · obtain rfl : k = s.size := by omega
      rw [List.take_of_length_le (l := s.data.toList) (show s.data.toList.length ≤ s.size from Nat.le_refl _)] at hown
      have hcv := (Sl.own hown).toString 55 9 5 Try.underlying55 Try.underlying5 Try.underlying9
      go_wp2
      go_ret
      exact ⟨rfl, hbw⟩

theorem Sl.i32 {w : World} {xs : List Int} {a : Option Addr} {n cap : Nat} (h : Sl w (.slice a n cap) (i32s xs)) (k : Nat) (hk : k < xs.length) : ∃ b off, a = some ⟨b, off, none⟩ ∧ b < w.heap.size ∧ w.cell? ⟨b, off + k, none⟩ = some (.int .i32 xs[k]) := by
  obtain ⟨a', cap', h1, h2, h3, h4, h5⟩ := h
  cases h1
  obtain ⟨b, off, h6, h7⟩ := h5 (ne_of_lt (k := k) (by simpa using hk))
  have h8 := h7 k (by simpa using hk)
  refine ⟨b, off, h6, World.block_lt_of_cell? w _ h8, ?_⟩
  rw [h8]; simp [i32s]

end Go.Proofs.Ytbnfaijkmbgpmaa

/- Calls of package strings in this program: a builder's WriteString, IndexByte, Contains at one byte, Clone. -/
namespace Go.Proofs.Ytbnfaijkmbgpmaa
open Go.Shelf Go.RowKit

set_option maxHeartbeats 2000000 in
set_option maxRecDepth 100000 in
theorem bWriteString (B b : Nat) (bs : List Value) (s : ByteArray) (w : World) (h : Lib.IsBuilderF 114 5 B b bs w) (hlen : bs.length + s.size ≤ 140737488355328) (hBw : B ≤ w.heap.size) :
    Calls Try.prog 120 #[.pointer (some ⟨b, 0, none⟩), .string s] w fun e w' => e = .returned (.tuple #[.int .i64 s.size, .nilIface]) ∧ (Lib.BuilderAtF 114 5 B b (.pointer (some ⟨b, 0, none⟩)) (bs ++ Lib.strCells s) w' ∧ Below B w w' ∧ Lib.OthersKept 5 (some b) w w') := by
  obtain ⟨i0, hi, hz0, hz1, hz2⟩ := info_parts infoU8
  go_enter Try.func120, Try.ntmps120
  go_wp2_with (go_at_call 129; refine (copyCheck_k B b bs _ h).mono ?_)
  rintro e w1 ⟨rfl, h1, hb1, hk1⟩
  obtain ⟨hB, v, hbk, hown, hne⟩ := h1
  have c0 : w1.cell? ⟨b, 0, none⟩ = some (.pointer (some ⟨b, 0, none⟩)) := by rw [Lib.cell_of_heap hbk]; rfl
  have c1 : w1.cell? ⟨b, 1, none⟩ = some v := by rw [Lib.cell_of_heap hbk]; rfl
  go_wp2_with (at_builtin; refine Lib.wpList_append_own_stringF _ rfl _ _ 55 9 rfl B 5 i0 Try.underlying55 Try.underlying9 hi hz0 hz1 hz2 _ _ _ rfl hown s rfl ?c3 ?c4 ?c5 ?_)
  case c3 => unfold maxLen; omega
  case c4 => omega
  case c5 => have := hb1.size; omega
  intro v' w2 hown' hgrow _
  have hlt : b < w1.heap.size := by
    rcases Nat.lt_or_ge b w1.heap.size with h' | h'
    · exact h'
    · simp [Array.getElem?_eq_none h'] at hbk
  have hb2 : w2.heap[b]? = some (.cells #[.pointer (some ⟨b, 0, none⟩), v] 114 (0, 0)) := by
    rw [hgrow.block b hlt (fun e => hne e.symm)]
    exact hbk
  have d0 : w2.cell? ⟨b, 0, none⟩ = some (.pointer (some ⟨b, 0, none⟩)) := by rw [Lib.cell_of_heap hb2]; rfl
  have d1 : w2.cell? ⟨b, 1, none⟩ = some v := by rw [Lib.cell_of_heap hb2]; rfl
  have f1 : w2.frozen? ⟨b, 1, none⟩ = false := Lib.frozen_of_heap hb2 1
  obtain ⟨ao, n', cap, rfl⟩ : ∃ ao n' cap, v' = .slice ao n' cap := by
    rcases hown'.2 with ⟨hv, _⟩ | ⟨g, cap, cur, fz, hv, _⟩
    · exact ⟨_, _, _, hv⟩
    · exact ⟨_, _, _, hv⟩
  go_wp2
  go_ret2
  refine ⟨rfl, ?_, ?_, (hk1.grown hgrow (Lib.ownsRowF_kind hown)).setCell ⟨b, 1, none⟩ rfl _⟩
  · exact Lib.BuilderAtF.put (T := 114) (e := 5) hB hb2 (bs' := bs ++ Lib.strCells s) (by simpa [Lib.strCells_length] using hown') (by decide)
  · exact (hb1.grown hgrow (by have := hb1.size; omega) (fun k hk => (hown.lt k hk).1)).setCell (p := ⟨b, 1, none⟩) hB _

set_option maxHeartbeats 1000000 in
set_option maxRecDepth 100000 in
theorem liteIndexByte (s : ByteArray) (c : Int) (w : World) :
    Calls Try.prog 125 #[.string s, .int .u8 c] w fun e w' => e = .returned (.int .i64 (Lib.indexByte s.data.toList c.toNat.toUInt8)) ∧ w' = w := by
  go_enter Try.func125, Try.ntmps125
  go_wp2
  rw [run_callFunc_extern Try.func131 (by kernel_rfl) (by kernel_rfl) (by kernel_rfl) (e := Extern.BytealgIndexByte.indexByte) (by kernel_rfl), Lib.run_indexByteString]
  simp only [Result.andThen]
  rw [Oper.upon_value]
  go_wp2
  go_ret
  exact ⟨rfl, rfl⟩

set_option maxHeartbeats 1000000 in
theorem sIndexByte (s : ByteArray) (c : Int) (w : World) :
    Calls Try.prog 138 #[.string s, .int .u8 c] w fun e w' => e = .returned (.int .i64 (Lib.indexByte s.data.toList c.toNat.toUInt8)) ∧ w' = w := by
  go_enter Try.func138, Try.ntmps138
  go_wp2_with (go_at_call 125; refine (liteIndexByte _ _ _).mono ?_; rintro e w' ⟨rfl, rfl⟩)
  go_ret
  exact ⟨rfl, rfl⟩

set_option maxHeartbeats 2000000 in
set_option maxRecDepth 100000 in
theorem liteIndex1 (s : ByteArray) (c : UInt8) (w : World) :
    Calls Try.prog 117 #[.string s, .string ⟨#[c]⟩] w fun e w' => e = .returned (.int .i64 (Lib.indexByte s.data.toList c)) ∧ w' = w := by
  go_enter Try.func117, Try.ntmps117
  go_wp2_with (go_at_call 125; refine (liteIndexByte _ _ _).mono ?_; rintro e w' ⟨rfl, rfl⟩)
  · have h : ([c] == s.toList) = true := by assumption
    go_ret
    refine ⟨?_, rfl⟩
    have e : s.data.toList = [c] := by rw [← Lib.toList_data]; exact (beq_iff_eq.1 h).symm
    rw [e]
    simp [Lib.indexByte]
  · go_ret
    exact ⟨rfl, rfl⟩

set_option maxHeartbeats 1000000 in
theorem sIndex1 (s : ByteArray) (c : UInt8) (w : World) :
    Calls Try.prog 102 #[.string s, .string ⟨#[c]⟩] w fun e w' => e = .returned (.int .i64 (Lib.indexByte s.data.toList c)) ∧ w' = w := by
  go_enter Try.func102, Try.ntmps102
  go_wp2_with (go_at_call 117; refine (liteIndex1 _ _ _).mono ?_; rintro e w' ⟨rfl, rfl⟩)
  go_ret
  exact ⟨rfl, rfl⟩

set_option maxHeartbeats 1000000 in
theorem sContains1 (s : ByteArray) (c : UInt8) (w : World) :
    Calls Try.prog 76 #[.string s, .string ⟨#[c]⟩] w fun e w' => e = .returned (.bool (decide (0 ≤ Lib.indexByte s.data.toList c))) ∧ w' = w := by
  go_enter Try.func76, Try.ntmps76
  go_wp2_with (go_at_call 102; refine (sIndex1 _ _ _).mono ?_; rintro e w' ⟨rfl, rfl⟩)
  go_ret
  exact ⟨rfl, rfl⟩


end Go.Proofs.Ytbnfaijkmbgpmaa

/- What came in: a row of numbers as a slice that reads; a text as bytes and back; frames one behind the other. -/
namespace Go.Proofs.Ytbnfaijkmbgpmaa
open Go.RowKit

theorem add_plain' (b off j : Nat) : (⟨b, off, none⟩ : Addr).add j = ⟨b, off + j, none⟩ := by unfold Addr.add; split <;> simp_all

theorem sl_row {k : IntKind} {w : World} {x : Addr} {len cap : Nat} {zs : List Int} (hl : len ≤ cap) (hm : cap ≤ maxLen) (hz : zs.length = cap) (hc : ∀ i, i < zs.length → w.cell? (x.add i) = some (.int k (zs.getD i 0))) :
    Sl w (.slice (some x) len cap) ((zs.take len).map (Value.int k)) := by
  have hlen : ((zs.take len).map (Value.int k)).length = len := by simp; omega
  unfold maxLen at hm
  refine ⟨some x, cap, by rw [hlen], by rw [hlen]; exact hl, by omega, (fun h => by cases h), fun hne => ?_⟩
  have hpos : 0 < len := by
    rcases Nat.eq_zero_or_pos len with h | h
    · subst h; simp at hne
    · exact h
  obtain ⟨b, off, spot⟩ := x
  have hspot : spot = none := by simpa [Addr.add] using World.cell?_spot (hc 0 (by omega))
  subst hspot
  refine ⟨b, off, rfl, fun j hj => ?_⟩
  rw [hlen] at hj
  have h := hc j (by omega)
  rw [add_plain'] at h
  rw [h]
  simp [List.getD_eq_getElem?_getD, List.getElem?_eq_getElem (show j < zs.length by omega)]

theorem sl_row8 {w : World} {x : Addr} {len cap : Nat} {zs : List Int} (hl : len ≤ cap) (hm : cap ≤ maxLen) (hz : zs.length = cap) (hc : ∀ i, i < zs.length → w.cell? (x.add i) = some (.int .u8 (zs.getD i 0))) (hw : ∀ n ∈ zs, (Lit.int .u8 n).wf = true) :
    Sl w (.slice (some x) len cap) (u8s ((zs.take len).map fun n => n.toNat.toUInt8)) := by
  have h := sl_row hl hm hz hc
  have e : u8s ((zs.take len).map fun n => n.toNat.toUInt8) = (zs.take len).map (Value.int .u8) := by
    simp only [u8s, Lib.byteCells, List.map_map]
    apply List.map_congr_left
    intro n hn
    have h1 := hw n (List.mem_of_mem_take hn)
    have h2 : IntKind.u8.min = 0 := rfl
    have h3 : IntKind.u8.max = 255 := rfl
    simp only [Lit.wf, Bool.and_eq_true, decide_eq_true_eq, h2, h3] at h1
    have h4 := M1.toNat_u8 n.toNat (by omega)
    simp only [Function.comp, h4]
    congr 1
    omega
  rw [e]; exact h

theorem Sl.fresh' (w : World) (e : TypeId) (xs : List Value) (n : Nat) (hn : xs.length = n) (h : n ≤ 4000) : Sl (w.alloc (.cells xs.toArray e)) (.slice (some ⟨w.heap.size, 0, none⟩) n n) xs := by
  subst hn
  refine ⟨_, xs.length, rfl, Nat.le_refl _, by omega, (fun h => by cases h), fun _ => ⟨_, 0, rfl, fun j hj => ?_⟩⟩
  rw [Nat.zero_add, World.cell?_alloc_at _ _ _ _ rfl]
  simp [hj]


theorem bt {w w1 w2 : World} (h : Below w.heap.size w w1) (k : Below w1.heap.size w1 w2) : Below w.heap.size w w2 := h.trans (k.mono h.size)

/-- What '[]byte(s)' leaves, said without the row's size. -/
theorem conv_bytes (w : World) (s : ByteArray) (hs : s.size ≤ 9223372036854775807) : ∃ v w', (convert 9 55 (.string s)).run Try.prog w = .ok v w' ∧ Sl w' v (u8s s.data.toList) ∧ Below w.heap.size w w' :=
  ⟨_, _, Lib.run_convert_string_bytes (P := Try.prog) w 9 55 5 s Try.underlying9 Try.underlying55 Try.underlying5, Sl.bytes w 5 s hs, below_bytesWorld w 5 s⟩
theorem conv_back {w : World} {v : Value} {l : List UInt8} (h : Sl w v (u8s l)) : (convert 55 9 v).run Try.prog w = .ok (.string ⟨l.toArray⟩) w :=
  h.toString 55 9 5 Try.underlying55 Try.underlying5 Try.underlying9
end Go.Proofs.Ytbnfaijkmbgpmaa

/- The document's answers of layer 2: names, digits, numbers, the reference at the beginning. -/
namespace Go.Proofs.Ytbnfaijkmbgpmaa
open Go.RowKit

def namesV : List Value := M2.tbl.map fun p => .string ⟨p.1.toArray⟩

def codesV : List Value := M2.tbl.map fun p => .int .i64 (p.2 : Int)

/-- A digit of a base, as it is told there. -/
def digN (b : Nat) (r : Int) : Int := if (b : Int) ≤ M2.digZ r then -1 else M2.digZ r

theorem digN_no {b : Nat} {c : UInt8} (h : M2.isD b c = false) : digN b c.toNat < 0 := by
  unfold digN
  have := M2.isD_no h
  split <;> omega

theorem digN_yes {b : Nat} {c : UInt8} (h : M2.isD b c = true) : digN b c.toNat = M2.digZ c.toNat ∧ 0 ≤ digN b c.toNat ∧ digN b c.toNat < b := by
  unfold M2.isD at h
  have := of_decide_eq_true h
  unfold digN
  rw [if_neg (by omega)]
  omega

/-- What a call answers of a number that may be none. -/
def ansB (o : Option Int) : Value := .tuple #[.int .i64 (o.getD 0), .bool o.isSome]

theorem ansB_mk (o : Option Int) : ∃ x y, ansB o = .tuple #[.int .i64 x, .bool y] := ⟨_, _, rfl⟩

end Go.Proofs.Ytbnfaijkmbgpmaa

/- The document's answers of layer 2, the rest: the reference at the beginning, texts decoded, texts written. -/
namespace Go.Proofs.Ytbnfaijkmbgpmaa
open Go.RowKit

/-- What a call answers of a reference, in numbers. -/
def ansI (o : Option (Int × Nat)) : Value := .tuple #[.int .i64 ((o.map (·.1)).getD 0), .int .i64 (((o.map (·.2)).getD 0 : Nat) : Int)]

theorem ansI_none : ansI none = .tuple #[.int .i64 0, .int .i64 0] := rfl

theorem ansI_some (r : Int) (n : Nat) : ansI (some (r, n)) = .tuple #[.int .i64 r, .int .i64 (n : Int)] := rfl

theorem ansB_none : ansB none = .tuple #[.int .i64 0, .bool false] := rfl

theorem ansB_some (r : Int) : ansB (some r) = .tuple #[.int .i64 r, .bool true] := rfl

theorem ne_byte {c d : UInt8} (h : c ≠ d) : ((c.toNat : Int) == (d.toNat : Int)) = false := by
  simp only [beq_eq_false_iff_ne]
  intro e
  exact h (UInt8.toNat_inj.1 (by omega))

theorem own_get (o : ByteArray) (k : Nat) (h : k < o.size) : o.data.toList[k]? = some o[k] := List.getElem?_eq_getElem (l := o.data.toList) h

theorem own_list (o : ByteArray) : o.data.toList.length = o.size := rfl

theorem own_two (o : ByteArray) (h : 1 < o.size) : ∃ t, o.data.toList = o[0] :: o[1] :: t := by
  have h0 := own_get o 0 (by omega)
  have h1 := own_get o 1 h
  generalize o.data.toList = l at *
  match l, h0, h1 with
  | a :: b :: t, h0, h1 =>
    simp at h0 h1
    exact ⟨t, by rw [h0, h1]⟩

theorem own_one (o : ByteArray) (h : 0 < o.size) : ∃ t, o.data.toList = o[0] :: t := by
  have h0 := own_get o 0 h
  generalize o.data.toList = l at *
  match l, h0 with
  | a :: t, h0 =>
    simp at h0
    exact ⟨t, by rw [h0]⟩

theorem ownB_16 (o : ByteArray) (h : 1 < o.size) (h0 : o[0] = 35) (h1 : o[1] = 120 ∨ o[1] = 88) : M2.ownB o.data.toList = M2.numR 16 6 (o.extract 2 o.size).data.toList := by
  obtain ⟨t, ht⟩ := own_two o h
  rw [extract_end, ht, M2.ownB, if_pos]
  rw [h0]
  rcases h1 with h1 | h1
  · left; rw [h1]; rfl
  · right; rw [h1]; rfl

theorem ownB_10 (o : ByteArray) (h : 1 < o.size) (h0 : o[0] = 35) (h1 : ¬ o[1] = 120) (h2 : ¬ o[1] = 88) : M2.ownB o.data.toList = M2.numR 10 7 (o.extract 1 o.size).data.toList := by
  obtain ⟨t, ht⟩ := own_two o h
  rw [extract_end, ht, M2.ownB, if_neg, if_pos]
  · rw [h0]; rfl
  · simp [h1, h2]

theorem ownB_10' (o : ByteArray) (h : o.size = 1) (h0 : o[0] = 35) : M2.ownB o.data.toList = M2.numR 10 7 (o.extract 1 o.size).data.toList := by
  obtain ⟨t, ht⟩ := own_one o (by omega)
  have hl := own_list o
  rw [ht] at hl
  have : t = [] := List.eq_nil_of_length_eq_zero (by simp at hl; omega)
  subst this
  rw [extract_end, ht, M2.ownB, if_neg (by simp), if_pos]
  rw [h0]; rfl

theorem ownB_nm (o : ByteArray) (h : 0 < o.size) (h0 : ¬ o[0] = 35) : M2.ownB o.data.toList = (M2.nm o.data.toList).map Int.ofNat := by
  obtain ⟨t, ht⟩ := own_one o h
  rw [ht, M2.ownB, if_neg, if_neg]
  · simp [h0]
  · cases t <;> simp [h0]

theorem ownB_nm0 (o : ByteArray) (h : o.size = 0) : M2.ownB o.data.toList = (M2.nm o.data.toList).map Int.ofNat := by
  have : o.data.toList = [] := List.eq_nil_of_length_eq_zero h
  rw [this]
  rfl

theorem byte_of {c : UInt8} {n : Nat} (h : (c.toNat : Int) = n) (hn : n < 256) : c = n.toUInt8 := by
  apply UInt8.toNat_inj.1
  rw [M1.toNat_u8 n hn]
  omega

theorem byte_no {c : UInt8} {n : Nat} (h : ¬ (c.toNat : Int) = n) (hn : n < 256) : ¬ c = n.toUInt8 := by
  rintro rfl
  rw [M1.toNat_u8 n hn] at h
  exact h rfl

/-- What is answered where the first ; is at place k. -/
def resI (k : Nat) : Option Int → Value
  | none => .tuple #[.int .i64 0, .int .i64 0]
  | some r => .tuple #[.int .i64 r, .int .i64 ((k : Int) + 1)]

end Go.Proofs.Ytbnfaijkmbgpmaa

/- The document's answers of layer 2, the rest: texts decoded, texts written. -/
namespace Go.Proofs.Ytbnfaijkmbgpmaa
open Go.RowKit

theorem cat_mk (a : List UInt8) (b : ByteArray) : (⟨a.toArray⟩ : ByteArray) ++ b = ⟨(a ++ b.data.toList).toArray⟩ := by
  apply ByteArray.ext
  simp

theorem str_val {a b : ByteArray} (h : a = b) : Value.string a = .string b := by rw [h]

theorem dec_step (l : List UInt8) (k : Nat) (h : k < l.length) : M2.decode (l.drop k) = match M2.one (l.drop k) with | none => l[k] :: M2.decode (l.drop (k + 1)) | some p => M1.enc p.1 ++ M2.decode (l.drop (k + p.2)) := by
  cases ho : M2.one (l.drop k) with
  | none =>
    have e : l.drop k = l[k] :: l.drop (k + 1) := List.drop_eq_getElem_cons h
    rw [e] at ho ⊢
    exact M2.decode_byte ho
  | some p =>
    obtain ⟨r, n⟩ := p
    rw [M2.decode_ref ho, List.drop_drop]

end Go.Proofs.Ytbnfaijkmbgpmaa

/- Documents' trees in memory: rows of more cells an element, attributes, nodes; read alone ('RepN S': all that is read lies in blocks of S), and made by the call ('Own': each row a block of its own, none met twice). -/
namespace Go.Proofs.Ytbnfaijkmbgpmaa
open Go.RowKit

def cellsA (l : List Att) : List Value := l.flatMap fun a => [.string a.name, .string a.value]
theorem cellsA_len (l : List Att) : (cellsA l).length = l.length * 2 := by
  induction l with
  | nil => rfl
  | cons a r ih => simp only [cellsA, List.flatMap_cons, List.length_append, List.length_cons, List.length_nil] at ih ⊢; omega
theorem cellsA_append (a b : List Att) : cellsA (a ++ b) = cellsA a ++ cellsA b := by simp [cellsA]
theorem cellsA_cons (a : Att) (l : List Att) : cellsA (a :: l) = .string a.name :: .string a.value :: cellsA l := rfl
theorem cellsA_one (l : List Att) : ∀ u ∈ cellsA l, u.oneCell' = true := by
  intro u hu
  obtain ⟨a, _, h⟩ := List.mem_flatMap.1 hu
  simp at h
  rcases h with rfl | rfl <;> rfl
theorem cellsA_at (l : List Att) (i : Nat) (h : i < l.length) : (cellsA l)[i * 2]? = some (.string l[i].name) ∧ (cellsA l)[i * 2 + 1]? = some (.string l[i].value) := by
  induction l generalizing i with
  | nil => simp at h
  | cons a r ih =>
    cases i with
    | zero => simp [cellsA_cons]
    | succ i =>
      have := ih i (by simpa using h)
      rw [cellsA_cons, show (i + 1) * 2 = i * 2 + 1 + 1 by omega]
      simpa using this

/-- The slice v of n elements of k cells reads in w ats xs, in a block of S. -/
def Row (S : Nat → Prop) (w : World) (k : Nat) (v : Value) (n : Nat) (xs : List Value) : Prop :=
  xs.length = n * k ∧ ∃ (a : Option Addr) (cap : Nat), v = .slice a n cap ∧ n ≤ cap ∧ cap ≤ 9223372036854775807 ∧ (a = none → cap = 0) ∧
    (0 < n → ∃ b off, a = some ⟨b, off, none⟩ ∧ S b ∧ ∀ j u, xs[j]? = some u → w.cell? ⟨b, off + j, none⟩ = some u)

theorem Row.nil (S : Nat → Prop) (w : World) (k : Nat) : Row S w k (.slice none 0 0) 0 [] := ⟨by simp, none, 0, rfl, Nat.le_refl _, by omega, fun _ => rfl, fun h => absurd h (by omega)⟩
theorem Row.keep {S : Nat → Prop} {w w' : World} {k n : Nat} {v : Value} {xs : List Value} (h : Row S w k v n xs) (hk : ∀ b, S b → w'.heap[b]? = w.heap[b]?) : Row S w' k v n xs := by
  obtain ⟨h0, a, cap, h1, h2, h3, h4, h5⟩ := h
  refine ⟨h0, a, cap, h1, h2, h3, h4, fun hn => ?_⟩
  obtain ⟨b, off, h6, h7, h8⟩ := h5 hn
  exact ⟨b, off, h6, h7, fun j u hu => (World.cell?_of_block (a := ⟨b, off + j, none⟩) (hk b h7)).trans (h8 j u hu)⟩
theorem Row.mono {S S' : Nat → Prop} {w : World} {k n : Nat} {v : Value} {xs : List Value} (h : Row S w k v n xs) (hs : ∀ b, S b → S' b) : Row S' w k v n xs := by
  obtain ⟨h0, a, cap, h1, h2, h3, h4, h5⟩ := h
  refine ⟨h0, a, cap, h1, h2, h3, h4, fun hn => ?_⟩
  obtain ⟨b, off, h6, h7, h8⟩ := h5 hn
  exact ⟨b, off, h6, hs b h7, h8⟩
theorem Row.slice {S : Nat → Prop} {w : World} {k n : Nat} {v : Value} {xs : List Value} (h : Row S w k v n xs) : ∃ a cap, v = .slice a n cap := by
  obtain ⟨_, a, cap, h1, _⟩ := h
  exact ⟨a, cap, h1⟩
theorem Row.own {w : World} {B : Nat} {e : TypeId} {k n : Nat} {v : Value} {xs : List Value} (h : w.ownsRow B e k v n xs) {S : Nat → Prop} (hs : ∀ g, v.ownBlock = some g → S g) : Row S w k v n xs := by
  refine ⟨h.1, ?_⟩
  have hc := fun g hg => h.cells (g := g) hg
  rcases h.2 with ⟨rfl, rfl⟩ | ⟨g, cap, cur, rfl, _, hg, h1, h2, h3, h4⟩
  · exact ⟨none, 0, rfl, Nat.le_refl _, by omega, fun _ => rfl, fun h => absurd h (by omega)⟩
  · unfold maxLen at h2
    refine ⟨some ⟨g, 0, none⟩, cap, rfl, h1, by omega, (fun h => by cases h), fun _ => ⟨g, 0, rfl, hs g rfl, fun j u hu => ?_⟩⟩
    have h5 := hc g rfl j u hu
    rwa [add_plain'] at h5

/-- Cells that are nodes, and nodes behind a slice: read alone. -/
def RepC (S : Nat → Prop) (w : World) : List Value → List Nd → Prop
  | xs, [] => xs = []
  | xs, .mk k n ats t ks :: r => ∃ va vk zs ys, xs = .int .i64 k :: .string n :: va :: .string t :: vk :: ys ∧ Row S w 2 va ats.length (cellsA ats) ∧ Row S w 5 vk ks.length zs ∧ RepC S w zs ks ∧ RepC S w ys r
termination_by _ l => SizeOf.sizeOf l

def RepN (S : Nat → Prop) (w : World) (v : Value) (l : List Nd) : Prop := ∃ xs, Row S w 5 v l.length xs ∧ RepC S w xs l

theorem RepC.nil (S : Nat → Prop) (w : World) : RepC S w [] [] := by rw [RepC]
theorem RepC.cons_iff {S : Nat → Prop} {w : World} {xs : List Value} {k : Int} {n : ByteArray} {ats : List Att} {t : ByteArray} {ks r : List Nd} :
    RepC S w xs (.mk k n ats t ks :: r) ↔ ∃ va vk ys, xs = .int .i64 k :: .string n :: va :: .string t :: vk :: ys ∧ Row S w 2 va ats.length (cellsA ats) ∧ RepN S w vk ks ∧ RepC S w ys r := by
  rw [RepC]
  constructor
  · rintro ⟨va, vk, zs, ys, h1, h2, h3, h4, h5⟩; exact ⟨va, vk, ys, h1, h2, ⟨zs, h3, h4⟩, h5⟩
  · rintro ⟨va, vk, ys, h1, h2, ⟨zs, h3, h4⟩, h5⟩; exact ⟨va, vk, zs, ys, h1, h2, h3, h4, h5⟩
theorem RepN.nil (S : Nat → Prop) (w : World) : RepN S w (.slice none 0 0) [] := ⟨[], Row.nil S w 5, RepC.nil S w⟩

theorem RepC.keep {S : Nat → Prop} {w w' : World} (hk : ∀ b, S b → w'.heap[b]? = w.heap[b]?) : ∀ (l : List Nd) (xs : List Value), RepC S w xs l → RepC S w' xs l := by
  intro l
  induction l using Nd.ind with
  | h0 => intro xs h; rw [RepC] at h ⊢; exact h
  | h1 k n ats t ks r ih1 ih2 =>
    intro xs h
    obtain ⟨va, vk, ys, h1, h2, ⟨zs, h3, h4⟩, h5⟩ := RepC.cons_iff.1 h
    exact RepC.cons_iff.2 ⟨va, vk, ys, h1, h2.keep hk, ⟨zs, h3.keep hk, ih1 _ h4⟩, ih2 _ h5⟩
theorem RepC.mono {S S' : Nat → Prop} {w : World} (hs : ∀ b, S b → S' b) : ∀ (l : List Nd) (xs : List Value), RepC S w xs l → RepC S' w xs l := by
  intro l
  induction l using Nd.ind with
  | h0 => intro xs h; rw [RepC] at h ⊢; exact h
  | h1 k n ats t ks r ih1 ih2 =>
    intro xs h
    obtain ⟨va, vk, ys, h1, h2, ⟨zs, h3, h4⟩, h5⟩ := RepC.cons_iff.1 h
    exact RepC.cons_iff.2 ⟨va, vk, ys, h1, h2.mono hs, ⟨zs, h3.mono hs, ih1 _ h4⟩, ih2 _ h5⟩
theorem RepN.keep {S : Nat → Prop} {w w' : World} {v : Value} {l : List Nd} (h : RepN S w v l) (hk : ∀ b, S b → w'.heap[b]? = w.heap[b]?) : RepN S w' v l := by
  obtain ⟨xs, h1, h2⟩ := h
  exact ⟨xs, h1.keep hk, RepC.keep hk _ _ h2⟩
theorem RepN.mono {S S' : Nat → Prop} {w : World} {v : Value} {l : List Nd} (h : RepN S w v l) (hs : ∀ b, S b → S' b) : RepN S' w v l := by
  obtain ⟨xs, h1, h2⟩ := h
  exact ⟨xs, h1.mono hs, RepC.mono hs _ _ h2⟩
theorem RepC.len {S : Nat → Prop} {w : World} : ∀ (l : List Nd) (xs : List Value), RepC S w xs l → xs.length = l.length * 5 := by
  intro l
  induction l using Nd.ind with
  | h0 => intro xs h; rw [RepC] at h; subst h; rfl
  | h1 k n ats t ks r _ ih2 =>
    intro xs h
    obtain ⟨va, vk, ys, rfl, _, _, h5⟩ := RepC.cons_iff.1 h
    have := ih2 _ h5
    simp only [List.length_cons]
    omega
theorem RepC.append {S : Nat → Prop} {w : World} {m : List Nd} {ys : List Value} (h : RepC S w ys m) : ∀ (l : List Nd) (xs : List Value), RepC S w xs l → RepC S w (xs ++ ys) (l ++ m) := by
  intro l
  induction l using Nd.ind with
  | h0 => intro xs h'; rw [RepC] at h'; subst h'; exact h
  | h1 k n ats t ks r _ ih2 =>
    intro xs h'
    obtain ⟨va, vk, zs, rfl, h2, h3, h5⟩ := RepC.cons_iff.1 h'
    exact RepC.cons_iff.2 ⟨va, vk, zs ++ ys, rfl, h2, h3, ih2 _ h5⟩
theorem RepC.drop {S : Nat → Prop} {w : World} : ∀ (l : List Nd) (xs : List Value) (i : Nat), RepC S w xs l → RepC S w (xs.drop (i * 5)) (l.drop i) := by
  intro l
  induction l using Nd.ind with
  | h0 => intro xs i h; rw [RepC] at h; subst h; simp [RepC.nil]
  | h1 k n ats t ks r _ ih2 =>
    intro xs i h
    cases i with
    | zero => simpa using h
    | succ i =>
      obtain ⟨va, vk, ys, rfl, _, _, h5⟩ := RepC.cons_iff.1 h
      rw [show (i + 1) * 5 = i * 5 + 1 + 1 + 1 + 1 + 1 by omega]
      simpa using ih2 ys i h5
theorem RepC.take {S : Nat → Prop} {w : World} : ∀ (l : List Nd) (xs : List Value) (i : Nat), RepC S w xs l → RepC S w (xs.take (i * 5)) (l.take i) := by
  intro l
  induction l using Nd.ind with
  | h0 => intro xs i h; rw [RepC] at h; subst h; simp [RepC.nil]
  | h1 k n ats t ks r _ ih2 =>
    intro xs i h
    cases i with
    | zero => simp [RepC.nil]
    | succ i =>
      obtain ⟨va, vk, ys, rfl, h2, h3, h5⟩ := RepC.cons_iff.1 h
      rw [show (i + 1) * 5 = i * 5 + 1 + 1 + 1 + 1 + 1 by omega]
      simp only [List.take_succ_cons]
      exact RepC.cons_iff.2 ⟨va, vk, _, rfl, h2, h3, ih2 ys i h5⟩

/-- A node's five cells, by themselves: of a parameter, of a variable. -/
structure RepV (S : Nat → Prop) (w : World) (x : Nd) (va vk : Value) : Prop where
  at_ : Row S w 2 va x.attrs.length (cellsA x.attrs)
  kids : RepN S w vk x.kids
theorem RepV.keep {S : Nat → Prop} {w w' : World} {x : Nd} {va vk : Value} (h : RepV S w x va vk) (hk : ∀ b, S b → w'.heap[b]? = w.heap[b]?) : RepV S w' x va vk := ⟨h.1.keep hk, h.2.keep hk⟩
theorem RepV.mono {S S' : Nat → Prop} {w : World} {x : Nd} {va vk : Value} (h : RepV S w x va vk) (hs : ∀ b, S b → S' b) : RepV S' w x va vk := ⟨h.1.mono hs, h.2.mono hs⟩
/-- A node ats a value. -/
abbrev Nd.val (x : Nd) (va vk : Value) : Value := .agg #[.int .i64 x.kind, .string x.name, va, .string x.text, vk]
abbrev Nd.cells (x : Nd) (va vk : Value) : List Value := [.int .i64 x.kind, .string x.name, va, .string x.text, vk]
theorem RepC.single {S : Nat → Prop} {w : World} {x : Nd} {va vk : Value} (h : RepV S w x va vk) : RepC S w (x.cells va vk) [x] := by
  cases x
  exact RepC.cons_iff.2 ⟨va, vk, [], rfl, h.1, h.2, RepC.nil S w⟩

/-- The element i. -/
theorem RepC.at_ {S : Nat → Prop} {w : World} {l : List Nd} {xs : List Value} (h : RepC S w xs l) (i : Nat) (hi : i < l.length) :
    ∃ va vk, xs[i * 5]? = some (.int .i64 l[i].kind) ∧ xs[i * 5 + 1]? = some (.string l[i].name) ∧ xs[i * 5 + 2]? = some va ∧ xs[i * 5 + 3]? = some (.string l[i].text) ∧ xs[i * 5 + 4]? = some vk ∧ RepV S w l[i] va vk := by
  have h1 := RepC.drop _ _ i h
  rw [List.drop_eq_getElem_cons hi, Nd.eta l[i]] at h1
  obtain ⟨va, vk, ys, h2, h3, h4, _⟩ := RepC.cons_iff.1 h1
  have h5 : ∀ j, xs[i * 5 + j]? = (xs.drop (i * 5))[j]? := fun j => by rw [List.getElem?_drop]
  refine ⟨va, vk, ?_, ?_, ?_, ?_, ?_, ⟨h3, h4⟩⟩
  · have := h5 0; rw [h2] at this; simpa using this
  · rw [h5, h2]; rfl
  · rw [h5, h2]; rfl
  · rw [h5, h2]; rfl
  · rw [h5, h2]; rfl
theorem RepN.at_ {S : Nat → Prop} {w : World} {a : Option Addr} {n cap : Nat} {l : List Nd} (h : RepN S w (.slice a n cap) l) (i : Nat) (hi : i < l.length) :
    ∃ b off va vk, a = some ⟨b, off, none⟩ ∧ S b ∧ w.cell? ⟨b, off + i * 5, none⟩ = some (.int .i64 l[i].kind) ∧ w.cell? ⟨b, off + i * 5 + 1, none⟩ = some (.string l[i].name) ∧ w.cell? ⟨b, off + i * 5 + 2, none⟩ = some va ∧
      w.cell? ⟨b, off + i * 5 + 3, none⟩ = some (.string l[i].text) ∧ w.cell? ⟨b, off + i * 5 + 4, none⟩ = some vk ∧ RepV S w l[i] va vk := by
  obtain ⟨xs, ⟨h0, a', cap', h1, h2, h3, h4, h5⟩, h6⟩ := h
  cases h1
  obtain ⟨b, off, rfl, h7, h8⟩ := h5 (by omega)
  obtain ⟨va, vk, c0, c1, c2, c3, c4, hv⟩ := h6.at_ i hi
  exact ⟨b, off, va, vk, rfl, h7, h8 _ _ c0, h8 _ _ c1, h8 _ _ c2, h8 _ _ c3, h8 _ _ c4, hv⟩
theorem RepN.len {S : Nat → Prop} {w : World} {a : Option Addr} {n cap : Nat} {l : List Nd} (h : RepN S w (.slice a n cap) l) : n = l.length ∧ n ≤ cap ∧ cap ≤ 9223372036854775807 := by
  obtain ⟨xs, ⟨h0, a', cap', h1, h2, h3, h4, h5⟩, h6⟩ := h
  cases h1
  exact ⟨rfl, h2, h3⟩
theorem RepN.slice {S : Nat → Prop} {w : World} {v : Value} {l : List Nd} (h : RepN S w v l) : ∃ a cap, v = .slice a l.length cap := by
  obtain ⟨xs, h1, h6⟩ := h
  exact h1.slice
theorem Row.atA {S : Nat → Prop} {w : World} {a : Option Addr} {n cap : Nat} {l : List Att} (h : Row S w 2 (.slice a n cap) l.length (cellsA l)) (i : Nat) (hi : i < l.length) :
    ∃ b off, a = some ⟨b, off, none⟩ ∧ S b ∧ w.cell? ⟨b, off + i * 2, none⟩ = some (.string l[i].name) ∧ w.cell? ⟨b, off + i * 2 + 1, none⟩ = some (.string l[i].value) := by
  obtain ⟨h0, a', cap', h1, h2, h3, h4, h5⟩ := h
  cases h1
  obtain ⟨b, off, rfl, h7, h8⟩ := h5 (by omega)
  obtain ⟨c0, c1⟩ := cellsA_at l i hi
  exact ⟨b, off, rfl, h7, h8 _ _ c0, h8 _ _ c1⟩
theorem Row.len {S : Nat → Prop} {w : World} {a : Option Addr} {n m k cap : Nat} {xs : List Value} (h : Row S w k (.slice a n cap) m xs) : n = m ∧ n ≤ cap ∧ cap ≤ 9223372036854775807 := by
  obtain ⟨h0, a', cap', h1, h2, h3, h4, h5⟩ := h
  cases h1
  exact ⟨rfl, h2, h3⟩

/-! ### A variable that the call has made: its block, whole -/
def Box (w : World) (g : Nat) (t : TypeId) (cs : List Value) : Prop := w.heap[g]? = some (.cells cs.toArray t (0, 0))
section
variable {w w' : World} {g : Nat} {t : TypeId} {cs : List Value}
theorem Box.new (w : World) (t : TypeId) (cs : List Value) : Box (w.alloc (.cells cs.toArray t)) w.heap.size t cs := heap_alloc_new w _
theorem Box.lt (h : Box w g t cs) : g < w.heap.size := (Array.getElem?_eq_some_iff.1 h).1
theorem Box.cell (h : Box w g t cs) {i : Nat} {v : Value} (hv : cs[i]? = some v) : w.cell? ⟨g, i, none⟩ = some v := by
  rw [cell_of_row w g i cs.toArray t (0, 0) h]
  simpa using hv
theorem Box.free (h : Box w g t cs) (i : Nat) : w.frozen? ⟨g, i, none⟩ = false := by
  unfold Box at h
  simp [World.frozen?, h]
theorem Box.keep (h : Box w g t cs) (hk : w'.heap[g]? = w.heap[g]?) : Box w' g t cs := hk.trans h
theorem Box.below {B : Nat} (h : Box w g t cs) (hb : Below B w w') (hg : g < B) : Box w' g t cs := h.keep (hb.block g hg)
theorem Box.alloc (h : Box w g t cs) (o : Obj) : Box (w.alloc o) g t cs := h.keep (Below.heap_alloc w o g h.lt)
theorem Box.far (h : Box w g t cs) {p : Addr} (hp : g ≠ p.block) (u : Value) : Box (w.setCell p u) g t cs := h.keep (Below.heap_setCell w p u g hp)
theorem Box.set (h : Box w g t cs) (i : Nat) (u : Value) : Box (w.setCell ⟨g, i, none⟩ u) g t (cs.set i u) := by
  unfold Box at h ⊢
  simp [World.setCell, Array.getElem?_modify, h]
end
end Go.Proofs.Ytbnfaijkmbgpmaa

/- The reference of layer 5: bytes, a name, a word's place. -/
namespace Go.Proofs.Ytbnfaijkmbgpmaa
open Go.RowKit

set_option maxHeartbeats 1000000 in
theorem ref05blank (c : UInt8) (w : World) : Calls Try.prog 54 #[.int .u8 (c.toNat : Int)] w fun e w' => e = .returned (.bool (M5.blankB c)) ∧ w = w' := by
  have key : ∀ d : UInt8, ((c.toNat : Int) == (d.toNat : Int)) = (c == d) := by
    intro d
    by_cases h : c = d
    · subst h; simp
    · rw [ne_byte h]; simp [h]
  have e : Hid (M5.blankB c = (((c.toNat : Int) == 9) || ((c.toNat : Int) == 10) || ((c.toNat : Int) == 12) || ((c.toNat : Int) == 32))) := by
    show _ = _
    unfold M5.blankB
    rw [← key 9, ← key 10, ← key 12, ← key 32]
    rfl
  clear key
  rw [e.out]
  generalize (c.toNat : Int) = n at *
  clear e
  cases h9 : (n == 9)
  · cases h10 : (n == 10)
    · cases h12 : (n == 12)
      · go_enter Try.func54, Try.ntmps54
        go_wp2
        go_ret
        exact ⟨rfl, rfl⟩
      · go_enter Try.func54, Try.ntmps54
        go_wp2
        go_ret
        exact ⟨rfl, rfl⟩
    · go_enter Try.func54, Try.ntmps54
      go_wp2
      go_ret
      exact ⟨rfl, rfl⟩
  · go_enter Try.func54, Try.ntmps54
    go_wp2
    go_ret
    exact ⟨rfl, rfl⟩

def BoolPost (b : Bool) (w : World) (e : Ending) (w' : World) : Prop := e = .returned (.bool b) ∧ w = w'

theorem eqI (c d : UInt8) : (c == d) = ((c.toNat : Int) == (d.toNat : Int)) := by
  by_cases h : c = d
  · subst h; simp
  · rw [ne_byte h]; simp [h]

theorem at_data (s : ByteArray) (i : Nat) (h : i < s.size) : s.data.toList[i]? = some s[i] := by
  rw [List.getElem?_eq_getElem (by show i < s.data.toList.length; exact h)]
  rfl

theorem drop_cons (s : ByteArray) (i : Nat) (h : i < s.size) : s.data.toList.drop i = s[i] :: s.data.toList.drop (i + 1) := List.drop_eq_getElem_cons (l := s.data.toList) h

theorem drop_end (s : ByteArray) (i : Nat) (h : s.size ≤ i) : s.data.toList.drop i = [] := List.drop_of_length_le h

theorem rf_meas {n k : Nat} (h : k < n) : n - (intOf (.int .i64 ((k : Int) + 1))).toNat < n - (intOf (.int .i64 (k : Int))).toNat := by
  simp [intOf]; omega
/-! ### Where a word stands -/

theorem find_yes (wd l : List UInt8) (h : l.take wd.length = wd) (hw : 0 < wd.length) (hl : wd.length ≤ l.length) : M5.findL wd l = 0 := by
  cases l with
  | nil => have : wd.length ≤ 0 := hl; omega
  | cons c r =>
    rw [M5.findL, if_pos]
    rw [List.isPrefixOf_iff_prefix]
    exact ⟨(c :: r).drop wd.length, by conv => lhs; lhs; rw [← h]
                                       exact List.take_append_drop _ _⟩

theorem find_no (wd : List UInt8) (c : UInt8) (r : List UInt8) (h : (c :: r).take wd.length ≠ wd) : M5.findL wd (c :: r) = M5.findL wd r + 1 := by
  rw [M5.findL, if_neg]
  intro hp
  rw [List.isPrefixOf_iff_prefix] at hp
  obtain ⟨t, ht⟩ := hp
  exact h (by rw [← ht]; simp)

theorem find_short (wd l : List UInt8) (h : l.length < wd.length) : M5.findL wd l = l.length := by
  induction l with
  | nil => rfl
  | cons c r ih =>
    have : (c :: r).take wd.length ≠ wd := fun e => by
      have := congrArg List.length e
      rw [List.length_take] at this
      omega
    rw [find_no wd c r this, ih (by simp at h; omega)]
    rfl

def PosPost (n : Nat) (w : World) (e : Ending) (w' : World) : Prop := e = .returned (.int .i64 (n : Int)) ∧ w = w'

/-! ### A name -/

theorem span_step (p : UInt8 → Bool) (s : ByteArray) (i : Nat) (h : i < s.size) : M5.spanN p (s.data.toList.drop i) = if p s[i] then M5.spanN p (s.data.toList.drop (i + 1)) + 1 else 0 := by
  unfold M5.spanN
  rw [drop_cons s i h, List.takeWhile_cons]
  cases p s[i] <;> simp

theorem span_end (p : UInt8 → Bool) (s : ByteArray) (i : Nat) (h : s.size ≤ i) : M5.spanN p (s.data.toList.drop i) = 0 := by
  rw [drop_end s i h]; rfl

theorem span_bound (p : UInt8 → Bool) (s : ByteArray) (i : Nat) (h : i ≤ s.size) : i + M5.spanN p (s.data.toList.drop i) ≤ s.size := by
  have := M5.spanN_le p (s.data.toList.drop i)
  rw [List.length_drop] at this
  have h2 : s.data.toList.length = s.size := rfl
  omega

theorem extract_span (p : UInt8 → Bool) (s : ByteArray) (i : Nat) : (s.extract i (i + M5.spanN p (s.data.toList.drop i))).data.toList = (s.data.toList.drop i).takeWhile p := by
  rw [Lib.extract_data, ← M5.span_take]
  congr 1
  omega

def NamePost (nm : List UInt8) (n : Nat) (w : World) (e : Ending) (w' : World) : Prop := e = .returned (.tuple #[.string ⟨nm.toArray⟩, .int .i64 (n : Int)]) ∧ Below w.heap.size w w'

theorem eqN (c : UInt8) (d : UInt8) : ((c.toNat : Int) != (d.toNat : Int)) = !(c == d) := by rw [bne, ← eqI]

/-- What a text's attribute is, by places. -/
theorem drop_while (p : UInt8 → Bool) (l : List UInt8) (i : Nat) : (l.drop i).dropWhile p = l.drop (i + M5.spanN p (l.drop i)) := by
  rw [← M5.span_drop, List.drop_drop]

theorem take_while (p : UInt8 → Bool) (l : List UInt8) (i : Nat) : (l.drop i).takeWhile p = (l.drop i).take (M5.spanN p (l.drop i)) := (M5.span_take _ _).symm

def npB (c : UInt8) : Bool := !M5.stopB c

def nvB (c : UInt8) : Bool := !M5.blankB c && c != 62

theorem attr_bare (s : ByteArray) (at_ E I1 : Nat) (hE : E = at_ + M5.spanN npB (s.data.toList.drop at_)) (h1 : I1 = E + M5.spanN M5.blankB (s.data.toList.drop E)) (hI : I1 ≤ s.size) (hno : ∀ h : I1 < s.size, s[I1] ≠ 61) :
    M5.attrAt (s.data.toList.drop at_) = (⟨M5.bs (M1.fold ((s.data.toList.drop at_).take (E - at_))), ⟨#[]⟩⟩, s.data.toList.drop I1, true) := by
  have e1 : ((s.data.toList.drop at_).dropWhile fun c => !M5.stopB c).dropWhile M5.blankB = s.data.toList.drop I1 := by
    rw [show ((s.data.toList.drop at_).dropWhile fun c => !M5.stopB c) = (s.data.toList.drop at_).dropWhile npB from rfl, drop_while, ← hE, drop_while, ← h1]
  have e2 : ((s.data.toList.drop at_).takeWhile fun c => !M5.stopB c) = (s.data.toList.drop at_).take (E - at_) := by
    rw [show ((s.data.toList.drop at_).takeWhile fun c => !M5.stopB c) = (s.data.toList.drop at_).takeWhile npB from rfl, take_while]
    congr 1
    omega
  unfold M5.attrAt
  rw [e1, e2]
  by_cases h : I1 < s.size
  · rw [drop_cons s I1 h]
    have := hno h
    split
    · rename_i r he
      injection he with he1 _
      exact absurd he1 this
    · rfl
  · rw [drop_end s I1 (by omega)]

theorem attr_eq (s : ByteArray) (at_ E I1 : Nat) (hE : E = at_ + M5.spanN npB (s.data.toList.drop at_)) (h1 : I1 = E + M5.spanN M5.blankB (s.data.toList.drop E)) (h : I1 < s.size) (h61 : s[I1] = 61) :
    M5.attrAt (s.data.toList.drop at_) = M5.valueAt (M5.bs (M1.fold ((s.data.toList.drop at_).take (E - at_)))) (s.data.toList.drop (I1 + 1)) := by
  have e1 : ((s.data.toList.drop at_).dropWhile fun c => !M5.stopB c).dropWhile M5.blankB = s.data.toList.drop I1 := by
    rw [show ((s.data.toList.drop at_).dropWhile fun c => !M5.stopB c) = (s.data.toList.drop at_).dropWhile npB from rfl, drop_while, ← hE, drop_while, ← h1]
  have e2 : ((s.data.toList.drop at_).takeWhile fun c => !M5.stopB c) = (s.data.toList.drop at_).take (E - at_) := by
    rw [show ((s.data.toList.drop at_).takeWhile fun c => !M5.stopB c) = (s.data.toList.drop at_).takeWhile npB from rfl, take_while]
    congr 1
    omega
  unfold M5.attrAt
  rw [e1, e2, drop_cons s I1 h, h61]
  rfl

theorem value_end (s : ByteArray) (nm : ByteArray) (j I2 : Nat) (h2 : I2 = j + M5.spanN M5.blankB (s.data.toList.drop j)) (h : s.size ≤ I2) : M5.valueAt nm (s.data.toList.drop j) = (⟨nm, M5.bs (M2.decode [])⟩, [], true) := by
  unfold M5.valueAt
  rw [drop_while, ← h2, drop_end s I2 h]

theorem value_quote (s : ByteArray) (nm : ByteArray) (j I2 : Nat) (h2 : I2 = j + M5.spanN M5.blankB (s.data.toList.drop j)) (h : I2 < s.size) (hq : s[I2] = 34 ∨ s[I2] = 39) :
    M5.valueAt nm (s.data.toList.drop j) = if M5.findL [s[I2]] (s.data.toList.drop (I2 + 1)) < (s.data.toList.drop (I2 + 1)).length then (⟨nm, M5.bs (M2.decode ((s.data.toList.drop (I2 + 1)).take (M5.findL [s[I2]] (s.data.toList.drop (I2 + 1)))))⟩, (s.data.toList.drop (I2 + 1)).drop (M5.findL [s[I2]] (s.data.toList.drop (I2 + 1)) + 1), true) else (⟨nm, ⟨#[]⟩⟩, [], false) := by
  unfold M5.valueAt
  rw [drop_while, ← h2, drop_cons s I2 h]
  dsimp only
  rw [if_pos hq]

theorem value_bare (s : ByteArray) (nm : ByteArray) (j I2 : Nat) (h2 : I2 = j + M5.spanN M5.blankB (s.data.toList.drop j)) (h : I2 < s.size) (hq : ¬ (s[I2] = 34 ∨ s[I2] = 39)) :
    M5.valueAt nm (s.data.toList.drop j) = (⟨nm, M5.bs (M2.decode ((s.data.toList.drop I2).take (M5.spanN nvB (s.data.toList.drop I2))))⟩, s.data.toList.drop (I2 + M5.spanN nvB (s.data.toList.drop I2)), true) := by
  rw [← drop_while, ← take_while]
  unfold M5.valueAt
  rw [drop_while, ← h2, drop_cons s I2 h]
  dsimp only
  rw [if_neg hq]
  rfl

def AttPost (p : Att × List UInt8 × Bool) (n : Nat) (w : World) (e : Ending) (w' : World) : Prop := e = .returned (.tuple #[.agg #[.string p.1.name, .string p.1.value], .int .i64 ((n - p.2.1.length : Nat) : Int), .bool p.2.2]) ∧ Below w.heap.size w w'

theorem attPost_mk {l : List UInt8} {a : Att} {k : Nat} {ok : Bool} {p : Att × List UInt8 × Bool} {w w' : World} {e : Ending} (hp : p = (a, l.drop k, ok)) (hk : k ≤ l.length) (he : e = .returned (.tuple #[.agg #[.string a.name, .string a.value], .int .i64 (k : Int), .bool ok])) (hb : Below w.heap.size w w') : AttPost p l.length w e w' := by
  subst hp he
  refine ⟨?_, hb⟩
  rw [show (l.drop k).length = l.length - k from List.length_drop, show l.length - (l.length - k) = k by omega]

theorem Box.two {W : World} {g : Nat} {t : TypeId} {z0 z1 : Value} (h : Box W g t [z0, z1]) (c0 c1 : Value) : Box ((W.setCell ⟨g, 0, none⟩ c0).setCell ⟨g, 1, none⟩ c1) g t [c0, c1] := by
  have := (h.set 0 c0).set 1 c1
  simpa only [List.set_cons_succ, List.set_cons_zero] using this

theorem two_below {B : Nat} {a W : World} (h : Below B a W) {g : Nat} (c0 c1 : Value) (hg : B ≤ g) : Below B a ((W.setCell ⟨g, 0, none⟩ c0).setCell ⟨g, 1, none⟩ c1) :=
  (h.setCell (p := ⟨g, 0, none⟩) hg c0).setCell (p := ⟨g, 1, none⟩) hg c1

end Go.Proofs.Ytbnfaijkmbgpmaa

/- Reference 5: what stands up to a word. -/
namespace Go.Proofs.Ytbnfaijkmbgpmaa
open Go.RowKit

def UptoPost (p : List UInt8 × List UInt8) (n : Nat) (w : World) (e : Ending) (w' : World) : Prop := e = .returned (.tuple #[.string (M5.bs p.1), .int .i64 ((n - p.2.length : Nat) : Int)]) ∧ w = w'

theorem uptoPost_mk {l x : List UInt8} {k : Nat} {p : List UInt8 × List UInt8} {w w' : World} {e : Ending} {t : ByteArray} (hp : p = (x, l.drop k)) (hk : k ≤ l.length) (he : e = .returned (.tuple #[.string t, .int .i64 (k : Int)])) (ht : t = M5.bs x) (hb : w = w') : UptoPost p l.length w e w' := by
  subst hp he ht
  refine ⟨?_, hb⟩
  rw [show (l.drop k).length = l.length - k from List.length_drop, show l.length - (l.length - k) = k by omega]

theorem bs_cut (s : ByteArray) (a b : Nat) : s.extract a b = M5.bs ((s.data.toList.drop a).take (b - a)) := by
  apply ByteArray.ext
  apply Array.ext'
  rw [Lib.extract_data, M5.bs_data]

theorem find_fits (wd l : List UInt8) (hw : 0 < wd.length) (h : M5.findL wd l < l.length) : M5.findL wd l + wd.length ≤ l.length := by
  induction l with
  | nil => simp at h
  | cons c r ih =>
    by_cases he : (c :: r).take wd.length = wd
    · by_cases hl : wd.length ≤ (c :: r).length
      · rw [find_yes _ _ he hw hl]; omega
      · rw [find_short _ _ (by omega)] at h; omega
    · rw [find_no _ _ _ he] at h ⊢
      simp only [List.length_cons] at h ⊢
      have := ih (by omega)
      omega

end Go.Proofs.Ytbnfaijkmbgpmaa

/- Reference 5: where a raw element ends. -/
namespace Go.Proofs.Ytbnfaijkmbgpmaa
open Go.RowKit

def endV : Option Nat → Int
  | some k => (k : Int)
  | none => -1

def EndsPost (o : Option Nat) (w : World) (e : Ending) (w' : World) : Prop := e = .returned (.int .i64 (endV o)) ∧ Below w.heap.size w w'

def edgeB (d : UInt8) : Bool := M5.blankB d || d == 47 || d == 62

theorem ends_step (wd : List UInt8) (s : ByteArray) (i n : Nat) (hn : wd.length = n) (h : i + n < s.size) : M5.endsL wd (s.data.toList.drop i) = if (M1.fold ((s.data.toList.drop i).take n) == wd && edgeB s[i + n]) then some 0 else (M5.endsL wd (s.data.toList.drop (i + 1))).map (· + 1) := by
  subst hn
  have hd : (s.data.toList.drop i).drop wd.length = s[i + wd.length] :: s.data.toList.drop (i + wd.length + 1) := by
    rw [List.drop_drop]; exact drop_cons s _ h
  rw [drop_cons s i (by omega)] at hd ⊢
  rw [M5.endsL, hd]
  rfl

theorem ends_short (wd l : List UInt8) (h : l.length ≤ wd.length) : M5.endsL wd l = none := by
  induction l with
  | nil => rfl
  | cons c r ih =>
    rw [M5.endsL, List.drop_of_length_le h, ih (by simp only [List.length_cons] at h; omega)]
    simp

set_option maxHeartbeats 2000000 in
set_option maxRecDepth 100000 in
theorem ref05Ends (s nm : ByteArray) (w : World) (hs : s.size ≤ 1073741824) (hn : nm.size ≤ 1073741824) :
    Calls Try.prog 34 #[.string s, .string nm] w (EndsPost (M5.endsL ([60, 47] ++ nm.data.toList) s.data.toList) w) := by
  obtain ⟨wd, hwd⟩ : ∃ wd : List UInt8, wd = [60, 47] ++ nm.data.toList := ⟨_, rfl⟩
  have hwl : wd.length = 2 + nm.size := by rw [hwd, List.length_append]; show 2 + nm.size = _; rfl
  obtain ⟨R, h0⟩ : ∃ R, Hid (R = (M5.endsL wd (s.data.toList.drop 0)).map (· + 0)) := ⟨(M5.endsL wd (s.data.toList.drop 0)).map (· + 0), Lib.hid rfl⟩
  rw [← hwd, show M5.endsL wd s.data.toList = R by rw [h0.out]; simp]
  have hW : Hid (((⟨#[60, 47]⟩ : ByteArray) ++ nm).toList = wd) := by show _ = _; rw [Lib.toList_data, ByteArray.data_append, Array.toList_append, hwd]
  replace hwd := Lib.hid hwd
  have hadd : ¬ 9223372036854775807 < 2 + nm.size := by omega
  obtain ⟨wo, rfl⟩ : ∃ wo : World, wo = w := ⟨_, rfl⟩
  go_enter Try.func34, Try.ntmps34
  go_wp2_with fail
  obtain ⟨n, hnn⟩ : ∃ n, n = 2 + nm.size := ⟨_, rfl⟩
  rw [show (2 : Int) + (nm.size : Int) = ((n : Nat) : Int) by omega]
  have hwn : wd.length = n := by omega
  have hnb : n ≤ 1073741826 := by omega
  clear hwl
  replace hnn := Lib.hid hnn
  go_loopw [6] (fun u6 wr => Below wo.heap.size wo wr ∧ ∃ i : Nat, i ≤ s.size ∧ u6 = .int .i64 (i : Int) ∧ Hid (R = (M5.endsL wd (s.data.toList.drop i)).map (· + i))) (fun u6 _ => s.size - (intOf u6).toNat)
  case atStart => exact ⟨Below.refl _ _, 0, (by omega), rfl, h0⟩
  case round =>
    obtain ⟨hbl, i, hi, rfl, hv⟩ := hrel
    by_cases hlt : i + n < s.size
    · have hil : i < s.size := by omega
      have hstep := ends_step wd s i n (by omega) (by omega)
      have hx : (s.extract i (i + n)).data.toList = (s.data.toList.drop i).take n := by rw [Lib.extract_data, Nat.add_sub_cancel_left]
      have hxs : (s.extract i (i + n)).size ≤ 1073741824 := by rw [ByteArray.size_extract]; omega
      have hF := Lib.hid (fun w => ref01Fold (s.extract i (i + n)) w hxs)
      rw [← hx] at hstep
      replace hx := Lib.hid hx
      obtain ⟨G, hG⟩ : ∃ G, G = M1.fold (s.extract i (i + n)).data.toList := ⟨_, rfl⟩
      rw [← hG] at hstep
      replace hG := Lib.hid hG
      replace hstep := Lib.hid hstep
      go_wp2_with fail
      replace hstep := hstep.out
      refine (hF.out _).mono ?_
      rintro e1 w1 ⟨rfl, hb1⟩
      rw [← hG.out]
      have hBl := Lib.hid (fun w => ref05blank s[i + n] w)
      by_cases hg : G = wd
      · have hcmp : (G == ((⟨#[60, 47]⟩ : ByteArray) ++ nm).toList) = true := by rw [hW.out, hg]; simp
        rw [show (G == wd) = true by rw [hg]; simp, Bool.true_and] at hstep
        replace hg := Lib.hid hg
        replace hstep := Lib.hid hstep
        go_wp2_with fail
        replace hstep := hstep.out
        refine (hBl.out _).mono ?_
        rintro e2 w2 ⟨rfl, rfl⟩
        have e47 : ((s[i + n].toNat : Int) == 47) = (s[i + n] == 47) := (eqI _ 47).symm
        have e62 : ((s[i + n].toNat : Int) == 62) = (s[i + n] == 62) := (eqI _ 62).symm
        have hyes : edgeB s[i + n] = true → R = some i := fun hed => by rw [hv.out, hstep, hed, if_pos rfl]; exact congrArg some (Nat.zero_add i)
        have hnot : edgeB s[i + n] = false → R = (M5.endsL wd (s.data.toList.drop (i + 1))).map (· + (i + 1)) := fun hed => by
          rw [hv.out, hstep, hed, if_neg (by simp), Option.map_map]
          congr 1; funext k; show k + 1 + i = k + (i + 1); omega
        replace hstep := Lib.hid hstep
        rw [edgeB] at hyes hnot
        rcases Bool.eq_false_or_eq_true (M5.blankB s[i + n]) with hb | hb
        · rw [hb]
          replace hyes := Lib.hid (hyes (by rw [hb]; rfl))
          clear hnot e47 e62
          go_wp2_with fail
          go_ret
          exact ⟨by rw [hyes.out]; rfl, bt hbl hb1⟩
        · rw [hb] at hyes hnot ⊢
          rcases Bool.eq_false_or_eq_true (s[i + n] == 47) with h4 | h4
          · rw [h4] at hyes e47
            replace hyes := Lib.hid (hyes rfl)
            clear hnot e62
            replace h4 := Lib.hid h4
            go_wp2_with fail
            go_ret
            exact ⟨by rw [hyes.out]; rfl, bt hbl hb1⟩
          · rw [h4] at hyes hnot e47
            rcases Bool.eq_false_or_eq_true (s[i + n] == 62) with h6 | h6
            · rw [h6] at hyes e62
              replace hyes := Lib.hid (hyes rfl)
              clear hnot
              replace h4 := Lib.hid h4
              replace h6 := Lib.hid h6
              go_wp2_with fail
              go_ret
              exact ⟨by rw [hyes.out]; rfl, bt hbl hb1⟩
            · rw [h6] at hnot e62
              replace hnot := Lib.hid (hnot rfl)
              clear hyes
              replace h4 := Lib.hid h4
              replace h6 := Lib.hid h6
              go_wp2_with fail
              go_round
              case rel => exact ⟨bt hbl hb1, i + 1, by omega, by go_num, hnot⟩
              case measure => exact rf_meas hil
      · have hcmp : (G == ((⟨#[60, 47]⟩ : ByteArray) ++ nm).toList) = false := by rw [hW.out, beq_eq_false_iff_ne]; exact hg
        have hv2 : Hid (R = (M5.endsL wd (s.data.toList.drop (i + 1))).map (· + (i + 1))) := by
          show _ = _
          rw [hv.out, hstep, show (G == wd) = false by rw [beq_eq_false_iff_ne]; exact hg, Bool.false_and, if_neg (by simp), Option.map_map]
          congr 1; funext k; show k + 1 + i = k + (i + 1); omega
        replace hg := Lib.hid hg
        replace hstep := Lib.hid hstep
        go_wp2_with fail
        go_round
        case rel => exact ⟨bt hbl hb1, i + 1, by omega, by go_num, hv2⟩
        case measure => exact rf_meas hil
    · have hno : R = none := by
        rw [hv.out, ends_short wd _ (by rw [List.length_drop]; show s.size - i ≤ _; omega)]; rfl
      replace hno := Lib.hid hno
      go_wp2_with fail
      go_ret
      exact ⟨by rw [hno.out]; rfl, hbl⟩

end Go.Proofs.Ytbnfaijkmbgpmaa

/- A word found in a text by how much of it stands right ahead: no program in it. -/
namespace Go.Proofs.Ytbnfaijkmbgpmaa.Kmp

def Low (u : List UInt8) : Prop := ∀ x ∈ u, M1.small x = x

/-- So many of the word's bytes stand right at the text's end, and no more. -/
def IsL (wd u : List UInt8) (h : Nat) : Prop := h ≤ wd.length ∧ wd.take h <:+ u ∧ ∀ k, k ≤ wd.length → wd.take k <:+ u → k ≤ h

def MB (wd : List UInt8) (j b : Nat) : Prop := b < j ∧ wd.take b <:+ wd.take j ∧ ∀ k, k < j → wd.take k <:+ wd.take j → k ≤ b

def Tab (wd : List UInt8) (bk : Nat → Nat) (M : Nat) : Prop := ∀ j, 1 ≤ j → j ≤ M → bk j < j ∧ (Low (wd.take j) → MB wd j (bk j))

def Cand (wd u : List UInt8) (c : UInt8) (h : Nat) : Prop := wd.take h <:+ u ∧ ∀ k, k ≤ wd.length → wd.take k <:+ u ++ [c] → k ≤ h + 1

theorem suf_snoc {a u : List UInt8} {x c : UInt8} (h : a ++ [x] <:+ u ++ [c]) : a <:+ u ∧ x = c := by
  obtain ⟨t, ht⟩ := h
  rw [← List.append_assoc] at ht
  have := List.append_inj' ht rfl
  exact ⟨⟨t, this.1⟩, by simpa using this.2⟩

theorem take_snoc (wd : List UInt8) (k : Nat) (h : k < wd.length) : wd.take (k + 1) = wd.take k ++ [wd[k]] := List.take_succ_eq_append_getElem h

theorem cand_of {wd u : List UInt8} {c : UInt8} {h : Nat} (hl : IsL wd u h) : Cand wd u c h := by
  refine ⟨hl.2.1, fun k hk hs => ?_⟩
  cases k with
  | zero => omega
  | succ k =>
    rw [take_snoc wd k (by omega)] at hs
    have := hl.2.2 k (by omega) (suf_snoc hs).1
    omega

theorem cand_hit {wd u : List UInt8} {c : UInt8} {h : Nat} (hc : Cand wd u c h) (hh : h < wd.length) (he : wd[h] = c) : IsL wd (u ++ [c]) (h + 1) := by
  refine ⟨hh, ?_, hc.2⟩
  rw [take_snoc wd h hh, he]
  obtain ⟨t, ht⟩ := hc.1
  exact ⟨t, by rw [← List.append_assoc, ht]⟩

theorem cand_zero {wd u : List UInt8} {c : UInt8} (hc : Cand wd u c 0) (hh : 0 < wd.length) (he : wd[0] ≠ c) : IsL wd (u ++ [c]) 0 := by
  refine ⟨Nat.zero_le _, ⟨u ++ [c], by simp⟩, fun k hk hs => ?_⟩
  have h1 := hc.2 k hk hs
  rcases Nat.lt_or_ge 0 k with h | h
  · obtain rfl : k = 1 := by omega
    rw [take_snoc wd 0 hh] at hs
    exact absurd (suf_snoc hs).2 he
  · exact h

theorem low_suf {a u : List UInt8} (h : a <:+ u) (hu : Low u) : Low a := fun x hx => hu x (h.subset hx)

theorem cand_miss {wd u : List UInt8} {c : UInt8} {h M : Nat} {bk : Nat → Nat} (hu : Low u) (ht : Tab wd bk M) (h1 : 1 ≤ h) (hM : h ≤ M) (hn : h ≤ wd.length) (hc : Cand wd u c h) (he : ∀ hh : h < wd.length, wd[h] ≠ c) : Cand wd u c (bk h) := by
  obtain ⟨hb1, hb2⟩ := ht h h1 hM
  obtain ⟨m1, m2, m3⟩ := hb2 (low_suf hc.1 hu)
  refine ⟨m2.trans hc.1, fun k hk hs => ?_⟩
  have h2 := hc.2 k hk hs
  cases k with
  | zero => omega
  | succ k =>
    rw [take_snoc wd k (by omega)] at hs
    obtain ⟨s1, s2⟩ := suf_snoc hs
    by_cases hkh : k = h
    · subst hkh
      exact absurd s2 (he (by omega))
    · have hlt : k < h := by omega
      have := m3 k hlt (List.suffix_of_suffix_length_le s1 hc.1 (by rw [List.length_take, List.length_take]; omega))
      omega

/-- What a step answers. -/
def Strides (wd : List UInt8) (h : Nat) (c : UInt8) (r : Nat) : Prop := r ≤ h + 1 ∧ r ≤ wd.length ∧ ∀ u, Low u → IsL wd u h → IsL wd (u ++ [M1.small c]) r

theorem isL_nil (wd : List UInt8) : IsL wd [] 0 := by
  refine ⟨Nat.zero_le _, ⟨[], by simp⟩, fun k hk hs => ?_⟩
  have := hs.length_le
  rw [List.length_take, List.length_nil] at this
  omega

/-- The table's first entry, and its next one. -/
theorem tab_one (wd : List UInt8) (bk : Nat → Nat) (h : bk 1 = 0) : Tab wd bk 1 := by
  intro j h1 h2
  obtain rfl : j = 1 := by omega
  rw [h]
  refine ⟨by omega, fun _ => ⟨by omega, ⟨wd.take 1, by simp⟩, fun k hk _ => by omega⟩⟩

theorem isL_mb {wd : List UInt8} {i b : Nat} (h1 : 1 ≤ i) (hi : i ≤ wd.length) (h : MB wd i b) : IsL wd ((wd.take i).drop 1) b := by
  have hlen : (wd.take i).length = i := by rw [List.length_take]; omega
  refine ⟨by have := h.1; omega, ?_, fun k hk hs => ?_⟩
  · refine List.suffix_of_suffix_length_le h.2.1 (List.drop_suffix 1 _) ?_
    rw [List.length_drop, hlen, List.length_take]
    have := h.1
    omega
  · have hl := hs.length_le
    rw [List.length_drop, hlen, List.length_take] at hl
    exact h.2.2 k (by omega) (hs.trans (List.drop_suffix 1 _))

theorem mb_isL {wd : List UInt8} {i b : Nat} (h1 : 1 ≤ i) (hi : i ≤ wd.length) (h : IsL wd ((wd.take i).drop 1) b) : MB wd i b := by
  have hlen : (wd.take i).length = i := by rw [List.length_take]; omega
  have hl := h.2.1.length_le
  rw [List.length_drop, hlen, List.length_take] at hl
  have hb := h.1
  refine ⟨by omega, h.2.1.trans (List.drop_suffix 1 _), fun k hk hs => ?_⟩
  refine h.2.2 k (by omega) (List.suffix_of_suffix_length_le hs (List.drop_suffix 1 _) ?_)
  rw [List.length_drop, hlen, List.length_take]
  omega

theorem tab_next {wd : List UInt8} {bk : Nat → Nat} {i : Nat} (h1 : 1 ≤ i) (hi : i < wd.length) (ht : Tab wd bk i) (r : Nat) (hr : Strides wd (bk i) wd[i] r) :
    Tab wd (fun j => if j = i + 1 then r else bk j) (i + 1) := by
  intro j j1 j2
  obtain ⟨t1, t2⟩ := ht i h1 (Nat.le_refl _)
  by_cases hj : j = i + 1
  · subst hj
    simp only [if_true]
    refine ⟨by have := hr.1; omega, fun hlow => ?_⟩
    have hlow1 : Low (wd.take i) := fun x hx => hlow x (by rw [take_snoc wd i hi]; exact List.mem_append_left _ hx)
    have hsm : M1.small wd[i] = wd[i] := hlow _ (by rw [take_snoc wd i hi]; exact List.mem_append_right _ (List.mem_singleton_self _))
    have hL := hr.2.2 _ (low_suf (List.drop_suffix 1 _) hlow1) (isL_mb h1 (by omega) (t2 hlow1))
    refine mb_isL (by omega) (by omega) ?_
    rw [hsm] at hL
    have e : (wd.take (i + 1)).drop 1 = (wd.take i).drop 1 ++ [wd[i]] := by
      rw [take_snoc wd i hi, List.drop_append_of_le_length (by rw [List.length_take]; omega)]
    rw [e]
    exact hL
  · simp only [if_neg hj]
    exact ht j j1 (by omega)

/-! ### Where a raw element ends -/

def Hit (wd l : List UInt8) (j : Nat) : Prop := M1.fold ((l.drop j).take wd.length) = wd ∧ ∃ h : j + wd.length < l.length, edgeB l[j + wd.length] = true

theorem ends_cons (wd : List UInt8) (c : UInt8) (r : List UInt8) : (Hit wd (c :: r) 0 → M5.endsL wd (c :: r) = some 0) ∧ (¬ Hit wd (c :: r) 0 → M5.endsL wd (c :: r) = (M5.endsL wd r).map (· + 1)) := by
  rw [M5.endsL]
  constructor
  · rintro ⟨h1, h2, h3⟩
    rw [Nat.zero_add] at h2
    have e : (c :: r).drop wd.length = (c :: r)[wd.length] :: (c :: r).drop (wd.length + 1) := List.drop_eq_getElem_cons h2
    rw [List.drop_zero] at h1
    rw [e, h1]
    have h3' : edgeB (c :: r)[wd.length] = true := by simpa using h3
    rw [if_pos]
    rw [beq_self_eq_true, Bool.true_and]
    exact h3'
  · intro h
    rw [if_neg]
    intro h'
    apply h
    rw [Bool.and_eq_true] at h'
    obtain ⟨h1, h2⟩ := h'
    refine ⟨by rw [List.drop_zero]; exact beq_iff_eq.1 h1, ?_⟩
    by_cases hl : wd.length < (c :: r).length
    · refine ⟨by rw [Nat.zero_add]; exact hl, ?_⟩
      have e : (c :: r).drop wd.length = (c :: r)[wd.length] :: (c :: r).drop (wd.length + 1) := List.drop_eq_getElem_cons hl
      rw [e] at h2
      have h2' : edgeB (c :: r)[wd.length] = true := h2
      simpa using h2'
    · rw [List.drop_of_length_le (by omega)] at h2
      cases h2

theorem hit_cons (wd : List UInt8) (c : UInt8) (r : List UInt8) (j : Nat) : Hit wd (c :: r) (j + 1) ↔ Hit wd r j := by
  unfold Hit
  rw [List.drop_succ_cons]
  constructor
  · rintro ⟨h1, h2, h3⟩
    have h2' : j + wd.length < r.length := by simp only [List.length_cons] at h2; omega
    refine ⟨h1, h2', ?_⟩
    have e : (c :: r)[j + 1 + wd.length] = r[j + wd.length] := by
      rw [List.getElem_cons]
      rw [dif_neg (by omega)]
      congr 1
      omega
    rw [← e]
    exact h3
  · rintro ⟨h1, h2, h3⟩
    have h2' : j + 1 + wd.length < (c :: r).length := by simp only [List.length_cons]; omega
    refine ⟨h1, h2', ?_⟩
    have e : (c :: r)[j + 1 + wd.length] = r[j + wd.length] := by
      rw [List.getElem_cons]
      rw [dif_neg (by omega)]
      congr 1
      omega
    rw [e]
    exact h3

theorem ends_some (wd : List UInt8) : ∀ (l : List UInt8) (j : Nat), Hit wd l j → (∀ k, k < j → ¬ Hit wd l k) → M5.endsL wd l = some j := by
  intro l
  induction l with
  | nil => intro j h; obtain ⟨_, h2, _⟩ := h; simp at h2
  | cons c r ih =>
    intro j h hn
    cases j with
    | zero => exact (ends_cons wd c r).1 h
    | succ j =>
      rw [(ends_cons wd c r).2 (hn 0 (by omega)), ih j ((hit_cons wd c r j).1 h) (fun k hk h' => hn (k + 1) (by omega) ((hit_cons wd c r k).2 h'))]
      rfl

theorem ends_none (wd : List UInt8) : ∀ (l : List UInt8), (∀ k, ¬ Hit wd l k) → M5.endsL wd l = none := by
  intro l
  induction l with
  | nil => intro _; rfl
  | cons c r ih =>
    intro hn
    rw [(ends_cons wd c r).2 (hn 0), ih (fun k h' => hn (k + 1) ((hit_cons wd c r k).2 h'))]
    rfl

/-- A whole word right ahead of a place. -/
theorem hit_iff {wd l : List UInt8} {i h : Nat} (hi : i < l.length) (hL : IsL wd (M1.fold (l.take i)) h) (hw : wd.length ≤ i) : Hit wd l (i - wd.length) ↔ (h = wd.length ∧ edgeB l[i] = true) := by
  have hfl : M1.fold (l.take i) = M1.fold (l.take (i - wd.length)) ++ M1.fold ((l.drop (i - wd.length)).take wd.length) := by
    unfold M1.fold
    rw [← List.map_append]
    congr 1
    have : l.take i = l.take ((i - wd.length) + wd.length) := by rw [Nat.sub_add_cancel hw]
    rw [this, List.take_add]
  have hx : M1.fold ((l.drop (i - wd.length)).take wd.length) = wd ↔ h = wd.length := by
    constructor
    · intro e
      have := hL.2.2 wd.length (Nat.le_refl _) (by rw [List.take_length, hfl, e]; exact ⟨_, rfl⟩)
      have := hL.1
      omega
    · intro e
      subst e
      have h2 := hL.2.1
      rw [List.take_length, hfl] at h2
      have hlen : (M1.fold ((l.drop (i - wd.length)).take wd.length)).length = wd.length := by
        unfold M1.fold
        rw [List.length_map, List.length_take, List.length_drop]
        omega
      obtain ⟨t, ht⟩ := h2
      exact (List.append_inj' ht (by rw [hlen])).2.symm
  unfold Hit
  rw [hx]
  constructor
  · rintro ⟨h1, h2, h3⟩
    refine ⟨h1, ?_⟩
    simpa [Nat.sub_add_cancel hw] using h3
  · rintro ⟨h1, h3⟩
    exact ⟨h1, by omega, by simpa [Nat.sub_add_cancel hw] using h3⟩

theorem fold_snoc (l : List UInt8) (i : Nat) (h : i < l.length) : M1.fold (l.take (i + 1)) = M1.fold (l.take i) ++ [M1.small l[i]] := by
  unfold M1.fold
  rw [List.take_succ_eq_append_getElem h, List.map_append]
  rfl

theorem low_fold (l : List UInt8) : Low (M1.fold l) := by
  intro x hx
  unfold M1.fold at hx
  obtain ⟨y, _, rfl⟩ := List.mem_map.1 hx
  exact M1.small_small y

end Go.Proofs.Ytbnfaijkmbgpmaa.Kmp

/- Tokens by definitions: a round of the program's loop. -/
namespace Go.Proofs.Ytbnfaijkmbgpmaa.M5

def keepT (t : Tok) : List Tok := if t.kind ≠ 0 then [t] else []
theorem endN_le (nm l : List UInt8) : endN nm l ≤ l.length := by
  unfold endN
  cases h : endsL ([60, 47] ++ nm) l with
  | none => exact Nat.le_refl _
  | some k =>
    show k ≤ l.length
    generalize [60, 47] ++ nm = wd at h
    induction l generalizing k with
    | nil => cases h
    | cons c r ih =>
      by_cases h0 : Kmp.Hit wd (c :: r) 0
      · rw [(Kmp.ends_cons wd c r).1 h0] at h
        cases h
        exact Nat.zero_le _
      · rw [(Kmp.ends_cons wd c r).2 h0] at h
        cases hr : endsL wd r with
        | none => rw [hr] at h; cases h
        | some j =>
          rw [hr] at h
          have := ih j hr
          have h' : j + 1 = k := by simpa using h
          simp only [List.length_cons]
          omega
theorem rawT_raw (t : Tok) (l : List UInt8) (h : t.kind = 1 ∧ M3.rawB t.name.data.toList = true) :
    rawT t l = (keepT (contC (endN t.name.data.toList l) l), l.drop (endN t.name.data.toList l)) := by
  rw [rawT, if_pos h]
  congr 1
  have hle := endN_le t.name.data.toList l
  generalize endN t.name.data.toList l = n at *
  unfold contC keepT asIs
  by_cases hz : n = 0
  · subst hz
    rw [if_pos rfl]
    rfl
  · rw [if_neg hz, if_neg, if_pos (show (3 : Int) ≠ 0 by decide)]
    rw [Bool.not_eq_true, List.isEmpty_eq_false_iff]
    intro e
    have := congrArg List.length e
    rw [List.length_take, List.length_nil] at this
    omega
theorem rawT_not (t : Tok) (l : List UInt8) (h : ¬ (t.kind = 1 ∧ M3.rawB t.name.data.toList = true)) : rawT t l = ([], l) := by rw [rawT, if_neg h]
theorem round_raw (l : List UInt8) (h : startsB l = true) (hr : (tagR l).1.kind = 1 ∧ M3.rawB (tagR l).1.name.data.toList = true) :
    toksR [] l = keepT (tagR l).1 ++ (keepT (contC (endN (tagR l).1.name.data.toList (tagR l).2) (tagR l).2) ++ toksR [] ((tagR l).2.drop (endN (tagR l).1.name.data.toList (tagR l).2))) := by
  rw [toks_tag l h, rawT_raw _ _ hr]
  rfl
theorem round_tag (l : List UInt8) (h : startsB l = true) (hr : ¬ ((tagR l).1.kind = 1 ∧ M3.rawB (tagR l).1.name.data.toList = true)) :
    toksR [] l = keepT (tagR l).1 ++ toksR [] (tagR l).2 := by
  rw [toks_tag l h, rawT_not _ _ hr, List.nil_append]
  rfl
end Go.Proofs.Ytbnfaijkmbgpmaa.M5

/- Layer 6 by plain definitions: nodes that are stable. No program in it. -/
namespace Go.Proofs.Ytbnfaijkmbgpmaa
namespace M6
open M3 (isText okP withText cat merge apart mayE oneE nilB)

def closedL (o : List UInt8) : List (List UInt8) :=
  if o = [112] then [[98, 108, 111, 99, 107, 113, 117, 111, 116, 101], [100, 105, 118], [104, 49], [104, 50], [104, 114], [108, 105], [111, 108], [112], [112, 114, 101], [116, 97, 98, 108, 101], [117, 108]]
  else if o = [108, 105] then [[108, 105]]
  else if o = [100, 116] ∨ o = [100, 100] then [[100, 100], [100, 116]]
  else if o = [111, 112, 116, 105, 111, 110] then [[111, 112, 116, 105, 111, 110]]
  else if o = [116, 100] then [[116, 100], [116, 114]]
  else if o = [116, 114] then [[116, 114]] else []
def closesB (o b : List UInt8) : Bool := (closedL o).contains b
/-- A text ends no raw element of that name ahead of its own end. -/
def endsHere (nm tx : List UInt8) : Bool := M5.endsL ([60, 47] ++ nm) (tx ++ ([60, 47] ++ nm ++ [62])) == some tx.length
def fitsB (p : ByteArray) (x : Nd) : Bool :=
  if M3.voidB p.data.toList then false else if M3.rawB p.data.toList then isText x && endsHere p.data.toList x.text.data.toList
  else !(decide (x.kind = 1) && closesB p.data.toList x.name.data.toList)
def hasB (w l : List UInt8) : Bool := decide (M5.findL w l < l.length)
/-- A comment that ends in itself. -/
def remB (x : Nd) : Bool := decide (x.kind = 3) && hasB [45, 45, 62] x.text.data.toList
def allB : List Nd → Bool
  | [] => true
  | .mk k n a t ks :: r => !remB (.mk k n a t ks) && (ks.all (fitsB n) && (allB ks && allB r))
termination_by l => SizeOf.sizeOf l
def oneS (x : Nd) : Bool := !remB x && (x.kids.all (fitsB x.name) && allB x.kids)
theorem allB_nil : allB [] = true := by rw [allB]
theorem allB_cons (x : Nd) (r : List Nd) : allB (x :: r) = (oneS x && allB r) := by
  cases x
  rw [allB]
  unfold oneS
  show (_ && (_ && (_ && _))) = ((_ && (_ && _)) && _)
  simp only [Bool.and_assoc]
  rfl
theorem allB_iff {l : List Nd} : allB l = true ↔ ∀ x ∈ l, oneS x = true := by
  induction l with
  | nil => rw [allB_nil]; exact ⟨fun _ x h => (nomatch h), fun _ => rfl⟩
  | cons x r ih => rw [allB_cons, Bool.and_eq_true, ih]; simp
def steadyQ : (Nd → Bool) → List Nd → List Nd
  | _, [] => []
  | q, .mk k n a t ks :: r =>
    (if (q (.mk k n a t ks) && !remB (.mk k n a t ks)) = true then [if k = 1 then .mk k n a t ((merge (steadyQ (fitsB n) ks)).filter (fitsB n)) else .mk k n a t ks] else []) ++ steadyQ q r
termination_by _ l => SizeOf.sizeOf l
theorem steadyQ_nil (q : Nd → Bool) : steadyQ q [] = [] := by rw [steadyQ]
/-- A node made steady. -/
def oneN (x : Nd) : Nd := if x.kind = 1 then .mk x.kind x.name x.attrs x.text ((merge (steadyQ (fitsB x.name) x.kids)).filter (fitsB x.name)) else x
theorem steadyQ_cons (q : Nd → Bool) (x : Nd) (r : List Nd) : steadyQ q (x :: r) = (if (q x && !remB x) = true then [oneN x] else []) ++ steadyQ q r := by
  cases x
  rw [steadyQ]
  rfl
def steady (l : List Nd) : List Nd := merge (steadyQ (fun _ => true) l)
/-- Those that fit first, then made steady: the same. -/
theorem steadyQ_filter (q : Nd → Bool) (l : List Nd) : steadyQ q l = steadyQ (fun _ => true) (l.filter q) := by
  induction l with
  | nil => rw [List.filter_nil, steadyQ_nil, steadyQ_nil]
  | cons x r ih =>
    rw [steadyQ_cons, ih]
    cases hq : q x
    · rw [List.filter_cons_of_neg (by rw [hq]; exact Bool.false_ne_true)]
      rfl
    · rw [List.filter_cons_of_pos hq, steadyQ_cons]
theorem oneN_kind (x : Nd) : (oneN x).kind = x.kind := by unfold oneN; split <;> rfl
theorem oneN_name (x : Nd) : (oneN x).name = x.name := by unfold oneN; split <;> rfl
theorem steady_from (q : Nd → Bool) (l : List Nd) : ∀ y ∈ steadyQ q l, ∃ x ∈ l, q x = true ∧ remB x = false ∧ y = oneN x := by
  induction l with
  | nil => intro y hy; rw [steadyQ_nil] at hy; exact (nomatch hy)
  | cons x r ih =>
    intro y hy
    rw [steadyQ_cons] at hy
    rcases List.mem_append.1 hy with hy | hy
    · split at hy
      · rename_i hc
        rw [Bool.and_eq_true] at hc
        rw [List.mem_singleton] at hy
        exact ⟨x, by simp, hc.1, by simpa using hc.2, hy⟩
      · exact (nomatch hy)
    · obtain ⟨z, h1, h2⟩ := ih y hy
      exact ⟨z, by simp [h1], h2⟩
theorem ok_of_may (l : List Nd) : ∀ p, mayE p l = 0 → (∀ x ∈ l, okP x) ∧ apart p l = true := by
  induction l with
  | nil => intro p _; exact ⟨fun x h => (nomatch h), rfl⟩
  | cons x r ih =>
    intro p h
    rw [M3.mayE_cons] at h
    by_cases h1 : oneE x p = 0
    · rw [if_neg (by simpa using h1)] at h
      by_cases h2 : mayE false x.kids = 0
      · rw [if_neg (by simpa using h2)] at h
        obtain ⟨i1, i2⟩ := ih _ h
        have key : okP x ∧ (isText x = true → nilB x.text = false ∧ p = false) := by
          unfold okP
          cases ht : isText x
          · have hk : ¬ x.kind = 2 := by simpa [isText] using ht
            refine ⟨?_, fun h => by cases h⟩
            rw [if_neg Bool.false_ne_true]
            refine ⟨?_, h2⟩
            unfold oneE at h1 ⊢
            rw [if_neg hk] at h1 ⊢
            exact h1
          · have hk : x.kind = 2 := by simpa [isText] using ht
            unfold oneE at h1
            rw [if_neg (by omega), if_pos hk] at h1
            split at h1
            · rename_i hp
              split at h1
              · rename_i hb
                rw [Bool.and_eq_true] at hb
                refine ⟨by rw [if_pos rfl]; exact ⟨hp, hb.1⟩, fun _ => ?_⟩
                have := hb.2
                revert this
                cases nilB x.text <;> cases p <;> simp
              · exact absurd h1 (by decide)
            · exact absurd h1 (by decide)
        refine ⟨fun y hy => ?_, M3.apart_iff.2 ⟨key.2, i2⟩⟩
        rcases List.mem_cons.1 hy with rfl | hy
        · exact key.1
        · exact i1 y hy
      · rw [if_pos (by simpa using h2)] at h
        exact absurd h h2
    · rw [if_pos (by simpa using h1)] at h
      exact absurd h h1
theorem oneS_cat (x y : Nd) (hx : oneS x = true) (h1 : isText x = true) : oneS (withText x (cat x.text y.text)) = true := by
  unfold oneS at *
  rw [Bool.and_eq_true] at hx ⊢
  refine ⟨?_, ?_⟩
  · have hk : x.kind = 2 := by simpa [isText] using h1
    unfold remB
    rw [show (withText x (cat x.text y.text)).kind = x.kind from by cases x; rfl, hk]
    rfl
  · have := hx.2
    cases x
    exact this
theorem apart_texts (l : List Nd) (f : Nd → Bool) (h : ∀ x ∈ l, isText x = true) (ha : apart false l = true) : apart false (l.filter f) = true := by
  match l, h, ha with
  | [], _, _ => rfl
  | [x], _, ha =>
    cases hf : f x
    · rw [List.filter_cons_of_neg (by rw [hf]; exact Bool.false_ne_true)]; rfl
    · rw [List.filter_cons_of_pos hf]; exact ha
  | x :: y :: r, h, ha =>
    have h1 := (M3.apart_iff.1 ha).2
    have h2 := (M3.apart_iff.1 h1).1 (h y (by simp))
    rw [h x (by simp)] at h2
    exact absurd h2.2 (by decide)
/-- What is left of an element's kids. -/
theorem kids_ok (n : ByteArray) (ks : List Nd) (h : ∀ y ∈ steadyQ (fitsB n) ks, okP y ∧ oneS y = true) :
    mayE false ((merge (steadyQ (fitsB n) ks)).filter (fitsB n)) = 0 ∧ ((merge (steadyQ (fitsB n) ks)).filter (fitsB n)).all (fitsB n) = true ∧ allB ((merge (steadyQ (fitsB n) ks)).filter (fitsB n)) = true := by
  have hm := M3.merge_all (P := fun x => okP x ∧ oneS x = true) (fun x y hx hy h1 h2 => ⟨M3.okP_cat x y hx.1 hy.1 h1 h2, oneS_cat x y hx.2 h1⟩) _ h
  have hap : apart false ((merge (steadyQ (fitsB n) ks)).filter (fitsB n)) = true := by
    have ha := M3.merge_apart' (steadyQ (fitsB n) ks)
    cases hv : M3.voidB n.data.toList
    · cases hr : M3.rawB n.data.toList
      · have hf : ∀ x ∈ merge (steadyQ (fitsB n) ks), fitsB n x = true := by
          refine M3.merge_all (P := fun x => fitsB n x = true) (fun x y hx _ h1 _ => ?_) _ (fun y hy => ?_)
          · unfold fitsB
            have hk : x.kind = 2 := by simpa [isText] using h1
            rw [hv, hr, if_neg Bool.false_ne_true, if_neg Bool.false_ne_true, show (withText x (cat x.text y.text)).kind = x.kind from by cases x; rfl, hk]
            rfl
          · obtain ⟨x, _, hq, _, rfl⟩ := steady_from _ _ y hy
            unfold fitsB at *
            rw [hv, hr, if_neg Bool.false_ne_true, if_neg Bool.false_ne_true] at *
            rw [oneN_kind, oneN_name]
            exact hq
        rw [List.filter_eq_self.2 hf]
        exact ha
      · refine apart_texts _ _ ?_ ha
        refine M3.merge_all (P := fun x => isText x = true) (fun x y hx _ h1 _ => ?_) _ (fun y hy => ?_)
        · cases x; exact hx
        · obtain ⟨x, _, hq, _, rfl⟩ := steady_from _ _ y hy
          unfold fitsB at hq
          rw [hv, hr, if_neg Bool.false_ne_true, if_pos rfl, Bool.and_eq_true] at hq
          unfold isText at *
          rw [oneN_kind]
          exact hq.1
    · have : (merge (steadyQ (fitsB n) ks)).filter (fitsB n) = [] := by
        rw [List.filter_eq_nil_iff]
        intro x _
        unfold fitsB
        rw [hv, if_pos rfl]
        exact Bool.false_ne_true
      rw [this]
      rfl
  refine ⟨M3.may_of_ok _ _ (fun x hx => (hm x (List.mem_filter.1 hx).1).1) hap, ?_, allB_iff.2 (fun x hx => (hm x (List.mem_filter.1 hx).1).2)⟩
  rw [List.all_eq_true]
  intro x hx
  exact (List.mem_filter.1 hx).2
theorem steady_ok (l : List Nd) : ∀ q, (∀ x ∈ l, okP x) → ∀ y ∈ steadyQ q l, okP y ∧ oneS y = true := by
  induction l using Nd.ind with
  | h0 => intro q _ y hy; rw [steadyQ_nil] at hy; exact (nomatch hy)
  | h1 k n a t ks r ih1 ih2 =>
    intro q h y hy
    rw [steadyQ_cons] at hy
    rcases List.mem_append.1 hy with hy | hy
    · have hx := h (.mk k n a t ks) (by simp)
      split at hy
      · rename_i hc
        rw [Bool.and_eq_true] at hc
        rw [List.mem_singleton] at hy
        have hrem : remB (.mk k n a t ks) = false := by simpa using hc.2
        unfold oneN at hy
        by_cases hk : k = 1
        · rw [if_pos (show (Nd.mk k n a t ks).kind = 1 from hk)] at hy
          have ht : isText (.mk k n a t ks) = false := by unfold isText; rw [show (Nd.mk k n a t ks).kind = k from rfl, hk]; rfl
          unfold okP at hx
          rw [ht, if_neg Bool.false_ne_true] at hx
          obtain ⟨x1, x2⟩ := hx
          have hks := (ok_of_may ks false x2).1
          obtain ⟨g1, g2, g3⟩ := kids_ok n ks (ih1 (fitsB n) hks)
          have hy : y = Nd.mk k n a t ((merge (steadyQ (fitsB n) ks)).filter (fitsB n)) := hy
          rw [hy]
          generalize (merge (steadyQ (fitsB n) ks)).filter (fitsB n) = K at *
          refine ⟨?_, ?_⟩
          · unfold okP
            rw [show isText (Nd.mk k n a t K) = false from ht, if_neg Bool.false_ne_true]
            refine ⟨?_, g1⟩
            unfold oneE at x1 ⊢
            rw [if_pos (show (Nd.mk k n a t ks).kind = 1 from hk)] at x1
            rw [if_pos (show (Nd.mk k n a t K).kind = 1 from hk)]
            exact x1
          · unfold oneS
            rw [Bool.and_eq_true, Bool.and_eq_true]
            refine ⟨?_, g2, g3⟩
            unfold remB
            show (!(decide (k = 3) && _)) = true
            rw [hk]
            rfl
        · rw [if_neg (show ¬ (Nd.mk k n a t ks).kind = 1 from hk)] at hy
          rw [hy]
          refine ⟨hx, ?_⟩
          have hks : ks = [] := by
            unfold okP at hx
            cases ht : isText (.mk k n a t ks)
            · rw [ht, if_neg Bool.false_ne_true] at hx
              have h2 : ¬ (Nd.mk k n a t ks).kind = 2 := by simpa [isText] using ht
              have h1 := hx.1
              unfold oneE at h1
              rw [if_neg (show ¬ (Nd.mk k n a t ks).kind = 1 from hk), if_neg (show ¬ (Nd.mk k n a t ks).kind = 2 from h2)] at h1
              split at h1
              · split at h1
                · rename_i hp
                  exact M3.plain_kids hp
                · exact absurd h1 (by decide)
              · exact absurd h1 (by decide)
            · rw [ht, if_pos rfl] at hx
              exact M3.plain_kids hx.1
          unfold oneS
          rw [hrem, show (Nd.mk k n a t ks).kids = [] from hks, allB_nil]
          rfl
      · exact (nomatch hy)
    · exact ih2 q (fun x hx => h x (by simp [hx])) y hy
/-- What is steady is stable. -/
theorem steady_stable (l : List Nd) (h : ∀ x ∈ l, okP x) : mayE false (steady l) = 0 ∧ allB (steady l) = true := by
  have h1 := steady_ok l (fun _ => true) h
  refine ⟨M3.may_merge _ (fun x hx => (h1 x hx).1), allB_iff.2 ?_⟩
  exact M3.merge_all (P := fun x => oneS x = true) (fun x y hx _ ht _ => oneS_cat x y hx ht) _ (fun x hx => (h1 x hx).2)
theorem merge_self {l : List Nd} (h : apart false l = true) : merge l = l := by
  have := M3.merge_apart l [] (fun y hy => by cases hy) h
  exact this
theorem steadyQ_self (l : List Nd) : ∀ (q : Nd → Bool) (p : Bool), (∀ x ∈ l, q x = true) → mayE p l = 0 → allB l = true → steadyQ q l = l := by
  induction l using Nd.ind with
  | h0 => intro q p _ _ _; exact steadyQ_nil q
  | h1 k n a t ks r ih1 ih2 =>
    intro q p hq hm ha
    rw [allB_cons, Bool.and_eq_true] at ha
    obtain ⟨ha1, ha2⟩ := ha
    unfold oneS at ha1
    rw [Bool.and_eq_true, Bool.and_eq_true] at ha1
    obtain ⟨hrem, hall, hak⟩ := ha1
    have hok := ok_of_may _ p hm
    have hr : mayE (k == 2) r = 0 := by
      rw [M3.mayE_cons] at hm
      by_cases h1 : oneE (.mk k n a t ks) p = 0
      · rw [if_neg (by simpa using h1)] at hm
        by_cases h2 : mayE false (Nd.mk k n a t ks).kids = 0
        · rw [if_neg (by simpa using h2)] at hm
          exact hm
        · rw [if_pos (by simpa using h2)] at hm
          exact absurd hm h2
      · rw [if_pos (by simpa using h1)] at hm
        exact absurd hm h1
    rw [steadyQ_cons, hq _ (by simp), hrem, if_pos (show (true && true) = true from rfl), ih2 q _ (fun x hx => hq x (by simp [hx])) hr ha2]
    show [oneN _] ++ r = _
    have hone : oneN (.mk k n a t ks) = .mk k n a t ks := by
      unfold oneN
      split
      · rename_i hk
        have hk : k = 1 := hk
        have hx := hok.1 (.mk k n a t ks) (by simp)
        have ht : isText (.mk k n a t ks) = false := by unfold isText; rw [show (Nd.mk k n a t ks).kind = k from rfl, hk]; rfl
        unfold okP at hx
        rw [ht, if_neg Bool.false_ne_true] at hx
        have hkm : mayE false ks = 0 := hx.2
        have hf : ∀ x ∈ ks, fitsB n x = true := List.all_eq_true.1 hall
        show Nd.mk k n a t ((merge (steadyQ (fitsB n) ks)).filter (fitsB n)) = _
        rw [ih1 (fitsB n) false hf hkm hak, merge_self (ok_of_may ks false hkm).2, List.filter_eq_self.2 hf]
      · rfl
    rw [hone]
    rfl
/-- Stable nodes are steady as they are. -/
theorem steady_self (l : List Nd) (h : mayE false l = 0) (ha : allB l = true) : steady l = l := by
  unfold steady
  rw [steadyQ_self l _ false (fun _ _ => rfl) h ha, merge_self (ok_of_may l false h).2]
/-! ### One by one -/
theorem apart_mem (l : List Nd) : ∀ p, apart p l = true → ∀ x ∈ l, isText x = true → nilB x.text = false := by
  induction l with
  | nil => intro p _ x h; exact (nomatch h)
  | cons y r ih =>
    intro p h x hx ht
    rw [M3.apart_iff] at h
    rcases List.mem_cons.1 hx with rfl | hx
    · exact (h.1 ht).1
    · exact ih _ h.2 x hx ht
theorem may_one {l : List Nd} (h : mayE false l = 0) {x : Nd} (hx : x ∈ l) : mayE false [x] = 0 := by
  obtain ⟨h1, h2⟩ := ok_of_may l false h
  refine M3.may_of_ok [x] false (fun y hy => ?_) (M3.apart_iff.2 ⟨fun ht => ⟨apart_mem l false h2 x hx ht, rfl⟩, rfl⟩)
  rw [List.mem_singleton] at hy
  subst hy
  exact h1 _ hx
theorem may_kids {l : List Nd} (h : mayE false l = 0) {x : Nd} (hx : x ∈ l) : mayE false x.kids = 0 := by
  have h1 := (ok_of_may l false h).1 x hx
  unfold okP at h1
  cases ht : isText x
  · rw [ht, if_neg Bool.false_ne_true] at h1
    exact h1.2
  · rw [ht, if_pos rfl] at h1
    rw [M3.plain_kids h1.1, M3.mayE_nil]
def stableB (l : List Nd) : Bool := decide (mayE false l = 0) && allB l
theorem stable_may {l : List Nd} (h : mayE false l = 0) : stableB l = allB l := by
  unfold stableB
  rw [decide_eq_true h, Bool.true_and]
theorem stable_parts {l : List Nd} (h : mayE false l = 0) : stableB l = l.all (fun x => stableB [x]) := by
  rw [stable_may h, Bool.eq_iff_iff, allB_iff, List.all_eq_true]
  refine ⟨fun h1 x hx => ?_, fun h1 x hx => ?_⟩
  · rw [stable_may (may_one h hx), allB_cons, h1 x hx, allB_nil]
    rfl
  · have := h1 x hx
    rw [stable_may (may_one h hx), allB_cons, allB_nil, Bool.and_true] at this
    exact this
theorem stable_one {l : List Nd} (h : mayE false l = 0) {x : Nd} (hx : x ∈ l) (h1 : stableB [x] = true) : stableB x.kids = true ∧ x.kids.all (fitsB x.name) = true := by
  rw [stable_may (may_one h hx), allB_cons, allB_nil, Bool.and_true] at h1
  unfold oneS at h1
  rw [Bool.and_eq_true, Bool.and_eq_true] at h1
  exact ⟨by rw [stable_may (may_kids h hx)]; exact h1.2.2, h1.2.1⟩
theorem fits_div {x : Nd} (h : ¬ x.kind = 1) : fitsB ⟨#[100, 105, 118]⟩ x = true := by
  unfold fitsB
  rw [show M3.voidB (⟨#[100, 105, 118]⟩ : ByteArray).data.toList = false by decide, show M3.rawB (⟨#[100, 105, 118]⟩ : ByteArray).data.toList = false by decide, if_neg Bool.false_ne_true, if_neg Bool.false_ne_true, decide_eq_false h]
  rfl
theorem fits_br (x : Nd) : fitsB ⟨#[98, 114]⟩ x = false := by
  unfold fitsB
  rw [show M3.voidB (⟨#[98, 114]⟩ : ByteArray).data.toList = true by decide, if_pos rfl]
theorem fits_style {x : Nd} (h : ¬ x.kind = 2) : fitsB ⟨#[115, 116, 121, 108, 101]⟩ x = false := by
  unfold fitsB
  rw [show M3.voidB (⟨#[115, 116, 121, 108, 101]⟩ : ByteArray).data.toList = false by decide, show M3.rawB (⟨#[115, 116, 121, 108, 101]⟩ : ByteArray).data.toList = true by decide, if_neg Bool.false_ne_true, if_pos rfl, show isText x = false by simpa [isText] using h]
  rfl
theorem fits_p {x : Nd} (h : x.kind = 1) : fitsB ⟨#[112]⟩ x = !closesB [112] x.name.data.toList := by
  unfold fitsB
  rw [show M3.voidB (⟨#[112]⟩ : ByteArray).data.toList = false by decide, show M3.rawB (⟨#[112]⟩ : ByteArray).data.toList = false by decide, if_neg Bool.false_ne_true, if_neg Bool.false_ne_true, decide_eq_true h]
  rfl
end M6
end Go.Proofs.Ytbnfaijkmbgpmaa
