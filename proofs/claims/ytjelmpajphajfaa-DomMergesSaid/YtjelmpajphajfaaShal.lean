/- Nodes by the cells that hold them, one level deep: rows that share what stands in them. -/
import Derived.Test.YtjelmpajphajfaaOpen3
import Derived.Test.YtjelmpajphajfaaClone2
import Derived.Test.YtjelmpajphajfaaMath3m
namespace Go.Proofs.Ytjelmpajphajfaa
open Go.RowKit

abbrev NV.cells (b : NV) : List Value := b.x.cells b.va b.vk
def cellsV (L : List NV) : List Value := L.flatMap NV.cells
def NV.ok (b : NV) : Prop := (∃ a c, b.va = .slice a b.x.attrs.length c) ∧ ∃ a c, b.vk = .slice a b.x.kids.length c
theorem cellsV_nil : cellsV [] = [] := rfl
theorem cellsV_cons (b : NV) (L : List NV) : cellsV (b :: L) = b.cells ++ cellsV L := rfl
theorem cellsV_append (A B : List NV) : cellsV (A ++ B) = cellsV A ++ cellsV B := by simp [cellsV]
theorem cellsV_one (b : NV) : cellsV [b] = b.cells := by simp [cellsV]
theorem cellsV_snoc (A : List NV) (b : NV) : cellsV (A ++ [b]) = cellsV A ++ b.cells := by rw [cellsV_append, cellsV_one]
theorem cellsV_len (L : List NV) : (cellsV L).length = L.length * 5 := by
  induction L with
  | nil => rfl
  | cons b r ih => rw [cellsV_cons, List.length_append, ih, List.length_cons]; simp; omega
theorem RepV.ok {S : Nat → Prop} {w : World} {b : NV} (h : RepV S w b.x b.va b.vk) : b.ok := ⟨h.at_.slice, h.kids.slice⟩
theorem RepC.nv {S : Nat → Prop} {w : World} : ∀ (l : List Nd) (xs : List Value), RepC S w xs l → ∃ L : List NV, L.map NV.x = l ∧ xs = cellsV L ∧ ∀ b ∈ L, RepV S w b.x b.va b.vk := by
  intro l
  induction l using Nd.ind with
  | h0 => intro xs h; rw [RepC] at h; exact ⟨[], rfl, h, fun b hb => by cases hb⟩
  | h1 k n ats t ks r _ ih2 =>
    intro xs h
    obtain ⟨va, vk, ys, rfl, h2, h3, h5⟩ := RepC.cons_iff.1 h
    obtain ⟨L, rfl, rfl, hL⟩ := ih2 _ h5
    refine ⟨⟨.mk k n ats t ks, va, vk⟩ :: L, rfl, rfl, fun b hb => ?_⟩
    rcases List.mem_cons.1 hb with rfl | hb
    · exact ⟨h2, h3⟩
    · exact hL b hb
theorem RepC.of_nv {S : Nat → Prop} {w : World} {L : List NV} (h : ∀ b ∈ L, RepV S w b.x b.va b.vk) : RepC S w (cellsV L) (L.map NV.x) := by
  induction L with
  | nil => exact RepC.nil _ _
  | cons b r ih =>
    rw [cellsV_cons, List.map_cons]
    exact RepC.append (m := r.map NV.x) (ih (fun c hc => h c (by simp [hc]))) [b.x] _ (RepC.single (h b (by simp)))
theorem cellsV_at (L : List NV) (i : Nat) (h : i < L.length) :
    (cellsV L)[i * 5]? = some (.int .i64 L[i].x.kind) ∧ (cellsV L)[i * 5 + 1]? = some (.string L[i].x.name) ∧ (cellsV L)[i * 5 + 2]? = some L[i].va ∧ (cellsV L)[i * 5 + 3]? = some (.string L[i].x.text) ∧ (cellsV L)[i * 5 + 4]? = some L[i].vk := by
  induction L generalizing i with
  | nil => simp at h
  | cons b r ih =>
    cases i with
    | zero => simp [cellsV_cons, NV.cells]
    | succ i =>
      have := ih i (by simpa using h)
      rw [cellsV_cons, show (i + 1) * 5 = i * 5 + 1 + 1 + 1 + 1 + 1 by omega]
      simpa [NV.cells] using this
theorem Row.atV {S : Nat → Prop} {w : World} {a : Option Addr} {n cap : Nat} {L : List NV} (h : Row S w 5 (.slice a n cap) L.length (cellsV L)) (i : Nat) (hi : i < L.length) :
    ∃ b off, a = some ⟨b, off, none⟩ ∧ S b ∧ w.cell? ⟨b, off + i * 5, none⟩ = some (.int .i64 L[i].x.kind) ∧ w.cell? ⟨b, off + i * 5 + 1, none⟩ = some (.string L[i].x.name) ∧ w.cell? ⟨b, off + i * 5 + 2, none⟩ = some L[i].va ∧ w.cell? ⟨b, off + i * 5 + 3, none⟩ = some (.string L[i].x.text) ∧ w.cell? ⟨b, off + i * 5 + 4, none⟩ = some L[i].vk := by
  obtain ⟨h0, a', cap', h1, h2, h3, h4, h5⟩ := h
  cases h1
  obtain ⟨b, off, rfl, h7, h8⟩ := h5 (by omega)
  obtain ⟨c0, c1, c2, c3, c4⟩ := cellsV_at L i hi
  exact ⟨b, off, rfl, h7, h8 _ _ c0, h8 _ _ c1, h8 _ _ c2, h8 _ _ c3, h8 _ _ c4⟩
/-- What lies in a row of the call's own. -/
theorem own_atV {w : World} {B g : Nat} {n cap : Nat} {L : List NV} (h : w.ownsRow B 28 5 (.slice (some ⟨g, 0, none⟩) n cap) n (cellsV L)) (i : Nat) (hi : i < L.length) :
    w.cell? ⟨g, i * 5, none⟩ = some (.int .i64 L[i].x.kind) ∧ w.cell? ⟨g, i * 5 + 3, none⟩ = some (.string L[i].x.text) ∧ w.frozen? ⟨g, i * 5 + 3, none⟩ = false := by
  obtain ⟨c0, c1, c2, c3, c4⟩ := cellsV_at L i hi
  have hc := fun j u hu => h.cells (g := g) rfl j u hu
  refine ⟨by have := hc _ _ c0; rwa [add_plain', Nat.zero_add] at this, by have := hc _ _ c3; rwa [add_plain', Nat.zero_add] at this, ?_⟩
  rcases h.2 with ⟨h', _⟩ | ⟨g', cap', cur, h', _, hg, _⟩
  · cases h'
  · cases h'
    simp [World.frozen?, hg]

/-- 'append(s, x)' of one element of k cells onto a row that the call owns. -/
theorem wpList_appK {P : Program} {ops : Array Oper} {rest : List Oper} {o : Oper} {a : Act} {Q : Exit → Act → World → Prop} (w1 : World) (cs : List Value) (k : Nat) (hgd : o.guard = none) (s y : Operand) (t e : TypeId)
    (ho : o.op = .call { callee := .builtin .append, args := #[s, y], argTypes := #[t, t] }) (base : Nat) {z : Value} {bytes : Nat} (ht : P.underlying t = some (.slice e))
    (hinfo : (P.info? e).map (fun i => (i.zero, i.size, i.bytes)) = some (some z, k, bytes)) (hz : z.cells.size = k) (hk : 0 < k)
    (v : Value) (n : Nat) (xs : List Value) (hs : a.eval s = v) (hown : w1.ownsRow base e k v n xs) (H : Nat) (hH : w1.heap.size = H) (hx : a.eval y = .slice (some ⟨H, 0, none⟩) 1 1) (hcs : cs.length = k) (h1 : ∀ u ∈ cs, u.oneCell' = true)
    (h63 : n + 1 ≤ 9223372036854775807) (hbytes : (n + 1) * bytes ≤ 140737488355328) (hbase : base ≤ w1.heap.size)
    (h : ∀ g cap w2, w2.ownsRow base e k (.slice (some ⟨g, 0, none⟩) (n + 1) cap) (n + 1) (xs ++ cs) → w1.grownBy w2 v.ownBlock → (v.ownBlock = some g ∨ w1.heap.size ≤ g) → wpList P ops Q rest (a.put o.dst (.slice (some ⟨g, 0, none⟩) (n + 1) cap)) w2) : wpList P ops Q (o :: rest) a (w1.alloc (.cells cs.toArray e)) := by
  subst hH
  obtain ⟨i, hi, hz0, hz1, hz2⟩ := info_parts hinfo
  refine wpList_append_lies _ hgd s y t ho base e i z k bytes ht hi hz0 hz1 hz2 hz hk v n xs hs (hown.alloc _) ⟨w1.heap.size, 0, none⟩ 1 1 cs hx (by omega) ?_ h1 (by omega) (by unfold maxLen; omega) hbytes (by simp; omega) _ rfl ?_
  · intro j u hj
    rw [add_plain', Nat.zero_add, World.cell?_alloc_at _ _ _ _ rfl]
    simpa using hj
  · intro g cap w2 h2 h3 h4 _
    exact h g cap w2 h2 (grownBy_of_alloc h3) (by
      rcases h4 with h4 | h4
      · exact .inl h4
      · right; rw [h4]; simp)
theorem own_below {w w1 : World} {base : Nat} {e : TypeId} {k : Nat} {v : Value} {n : Nat} {xs : List Value} (h : w.ownsRow base e k v n xs) (hb : Below w.heap.size w w1) : w1.ownsRow base e k v n xs :=
  own_keep h (fun g hg => hb.block g (h.lt g hg).2)
theorem below_own {B base : Nat} {e : TypeId} {k n : Nat} {v : Value} {xs : List Value} {a w w' : World} (h : Below B a w) (hown : w.ownsRow base e k v n xs) (hg : w.grownBy w' v.ownBlock) (hB : B ≤ w.heap.size) (hb : B ≤ base) : Below B a w' :=
  h.grown hg hB (fun k hk => by have := (hown.lt k hk).1; omega)

/-! ### Parts of a row of nodes -/
theorem RepN.take {S : Nat → Prop} {w : World} {a : Option Addr} {n cap : Nat} {l : List Nd} (h : RepN S w (.slice a n cap) l) (q : Nat) (hq : q ≤ l.length) : RepN S w (.slice a q cap) (l.take q) := by
  obtain ⟨xs, ⟨h1, a', cap', h2, h3, h4, h5, h6⟩, hc⟩ := h
  cases h2
  refine ⟨xs.take (q * 5), ⟨by simp; omega, a, cap, by simp; omega, by simp; omega, h4, h5, fun hp => ?_⟩, RepC.take l xs q hc⟩
  simp at hp
  obtain ⟨b, off, e, hb, hx⟩ := h6 (by omega)
  refine ⟨b, off, e, hb, fun j u hj => hx j u ?_⟩
  rw [List.getElem?_take] at hj
  split at hj
  · exact hj
  · cases hj
theorem RepN.zero (S : Nat → Prop) (w : World) (b : Nat) : RepN S w (.slice (some ⟨b, 0, none⟩) 0 0) [] := ⟨[], ⟨rfl, some ⟨b, 0, none⟩, 0, rfl, Nat.le_refl _, by omega, (fun e => by cases e), fun h => absurd h (by simp)⟩, RepC.nil _ _⟩
theorem RepN.drop {S : Nat → Prop} {w : World} {b : Nat} {off n cap : Nat} {l : List Nd} (h : RepN S w (.slice (some ⟨b, off, none⟩) n cap) l) (q : Nat) (hq : q ≤ l.length) : RepN S w (.slice (some ⟨b, off + q * 5, none⟩) (n - q) (cap - q)) (l.drop q) := by
  obtain ⟨xs, ⟨h1, a', cap', h2, h3, h4, h5, h6⟩, hc⟩ := h
  cases h2
  refine ⟨xs.drop (q * 5), ⟨by simp; omega, some ⟨b, off + q * 5, none⟩, cap - q, by simp, by simp; omega, by omega, (fun e => by cases e), fun hp => ?_⟩, RepC.drop l xs q hc⟩
  simp at hp
  obtain ⟨b', off', e, hb, hx⟩ := h6 (by omega)
  cases e
  refine ⟨b, off + q * 5, rfl, hb, fun j u hj => ?_⟩
  rw [List.getElem?_drop] at hj
  have := hx _ u hj
  rwa [← Nat.add_assoc] at this

/-- 's[q:]', as the walk has it. -/
theorem RepN.rest {S : Nat → Prop} {w : World} {b : Nat} {off n cap : Nat} {l : List Nd} (h : RepN S w (.slice (some ⟨b, off, none⟩) n cap) l) (q : Nat) (hq : q ≤ l.length) :
    RepN S w (.slice (if cap = q then some ⟨b, off, none⟩ else some ⟨b, off + q * 5, none⟩) (n - q) (cap - q)) (l.drop q) := by
  obtain ⟨hn, hc, _⟩ := h.len
  by_cases e : cap = q
  · rw [if_pos e]
    have h1 : l.drop q = [] := List.drop_of_length_le (by omega)
    rw [h1, show n - q = 0 by omega, show cap - q = 0 by omega]
    exact ⟨[], ⟨rfl, some ⟨b, off, none⟩, 0, rfl, Nat.le_refl _, by omega, (fun e => by cases e), fun h => absurd h (by simp)⟩, RepC.nil _ _⟩
  · rw [if_neg e]
    exact h.drop q hq

/-! ### Merged, by cells -/
def NV.withText (b : NV) (t : ByteArray) : NV := ⟨M3.withText b.x t, b.va, b.vk⟩
def bareV (b : NV) : Bool := M3.bareB b.x
def pushV (out : List NV) (b : NV) : List NV :=
  if bareV b then out
  else match out.getLast? with
    | some y => if M3.isText b.x && M3.isText y.x then out.dropLast ++ [y.withText (M3.cat y.x.text b.x.text)] else out ++ [b]
    | none => out ++ [b]
def mergeV (L : List NV) : List NV := L.foldl pushV []
theorem pushV_bare {out : List NV} {b : NV} (h : bareV b = true) : pushV out b = out := by unfold pushV; rw [if_pos h]
theorem pushV_nil {b : NV} (h : bareV b = false) : pushV [] b = [b] := by unfold pushV; rw [if_neg (by simp [h])]; rfl
theorem pushV_snoc {out : List NV} {b y : NV} (h : bareV b = false) : pushV (out ++ [y]) b = if M3.isText b.x && M3.isText y.x then out ++ [y.withText (M3.cat y.x.text b.x.text)] else out ++ [y] ++ [b] := by
  unfold pushV
  rw [if_neg (by simp [h])]
  simp
theorem mergeV_snoc (L : List NV) (b : NV) : mergeV (L ++ [b]) = pushV (mergeV L) b := by simp [mergeV]
theorem pushV_map (out : List NV) (b : NV) : (pushV out b).map NV.x = M3.push (out.map NV.x) b.x := by
  cases h : bareV b
  · rcases List.eq_nil_or_concat out with rfl | ⟨o, y, rfl⟩
    · rw [pushV_nil h]; exact (M3.push_none h).symm
    · rw [List.concat_eq_append, pushV_snoc h, List.map_append, List.map_cons, List.map_nil, M3.push_snoc h]
      split <;> simp [NV.withText]
  · rw [pushV_bare h, M3.push_bare h]
theorem mergeV_map (L : List NV) : (mergeV L).map NV.x = M3.merge (L.map NV.x) := by
  have key : ∀ (L out : List NV), (L.foldl pushV out).map NV.x = (L.map NV.x).foldl M3.push (out.map NV.x) := by
    intro L
    induction L with
    | nil => intro out; rfl
    | cons b r ih => intro out; rw [List.foldl_cons, ih, pushV_map]; rfl
  exact key L []
def txtV (L : List NV) : Nat := (L.map fun b => b.x.text.size).sum
theorem txtV_append (A B : List NV) : txtV (A ++ B) = txtV A + txtV B := by simp [txtV]
theorem txtV_one (b : NV) : txtV [b] = b.x.text.size := by simp [txtV]
theorem cat_size (s t : ByteArray) : (M3.cat s t).size = s.size + t.size := by
  show (M3.cat s t).data.toList.length = s.data.toList.length + t.data.toList.length
  rw [M3.cat_data, List.length_append]
theorem txtV_push (out : List NV) (b : NV) : txtV (pushV out b) ≤ txtV out + b.x.text.size ∧ (pushV out b).length ≤ out.length + 1 := by
  cases h : bareV b
  · rcases List.eq_nil_or_concat out with rfl | ⟨o, y, rfl⟩
    · rw [pushV_nil h, txtV_one]; simp
    · rw [List.concat_eq_append, pushV_snoc h]
      split
      · rw [txtV_append, txtV_append, txtV_one, txtV_one]; simp [NV.withText, M3.withText_text, cat_size]; omega
      · rw [txtV_append, txtV_one]; simp
  · rw [pushV_bare h]; omega
theorem txtV_merge (L : List NV) : txtV (mergeV L) ≤ txtV L ∧ (mergeV L).length ≤ L.length := by
  have key : ∀ (L out : List NV), txtV (L.foldl pushV out) ≤ txtV out + txtV L ∧ (L.foldl pushV out).length ≤ out.length + L.length := by
    intro L
    induction L with
    | nil => intro out; simp [txtV]
    | cons b r ih =>
      intro out
      have h1 := ih (pushV out b)
      have h2 := txtV_push out b
      have h3 : txtV (b :: r) = b.x.text.size + txtV r := by simp [txtV]
      rw [List.foldl_cons, h3, List.length_cons]
      omega
  have := key L []
  simpa [mergeV, txtV] using this
theorem txtV_mem {L : List NV} {b : NV} (h : b ∈ L) : b.x.text.size ≤ txtV L := by
  induction L with
  | nil => cases h
  | cons c r ih =>
    have h3 : txtV (c :: r) = c.x.text.size + txtV r := by simp [txtV]
    rcases List.mem_cons.1 h with rfl | h
    · omega
    · have := ih h; omega
end Go.Proofs.Ytjelmpajphajfaa
