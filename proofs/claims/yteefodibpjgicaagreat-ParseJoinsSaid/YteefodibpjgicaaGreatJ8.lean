/- Texts joined: Ref05g, Ref05h, TokM, BldP, BldT, Math8, Math4, Wr1, Tok1, Tok2, Tok3, Tok4, Tok5, Shelf5, Tok6, Tok7. -/
import Derived.Deep.RegionHeld3
import Derived.Deep.AppendLies
import Derived.Test.YteefodibpjgicaaGreatRows
import Derived.Test.YteefodibpjgicaaGreatRows
import Derived.Shelf.Strings.Builder1
import Derived.Shelf.Small.Strs
import Derived.Shelf.Strings.BuilderF
import Derived.Shelf.Strings.BuilderK
import Derived.Shelf.Strings.BuilderRune
import Derived.Shelf.LaysM
import Derived.Shelf.Strconv.Clone
import Derived.Shelf.Strings.Search1
import Derived.Shelf.Strings.Search2
import Derived.Shelf.Strings.Search3
import Derived.Shelf.Strings.Cut
import Derived.Shelf.Strings.Shaped
import Derived.Shelf.Strings.Prefix
import Derived.Maps.OwnSet
import Derived.Maps.AppendAt
import Derived.Test.YteefodibpjgicaaGreatJ1
import Derived.Test.YteefodibpjgicaaGreatJ2
import Derived.Test.YteefodibpjgicaaGreatJ3
import Derived.Test.YteefodibpjgicaaGreatJ4
import Derived.Test.YteefodibpjgicaaGreatJ5
import Derived.Test.YteefodibpjgicaaGreatJ6
import Derived.Test.YteefodibpjgicaaGreatJ7
namespace Go.Proofs.YteefodibpjgicaaGreat
open Go.RowKit
theorem own_below {w w1 : World} {base k : Nat} {e : TypeId} {v : Value} {n : Nat} {xs : List Value} (h : w.ownsRow base e k v n xs) (hb : Below w.heap.size w w1) : w1.ownsRow base e k v n xs :=
  h.kept (row := none) ⟨hb.os, hb.tape, hb.output, hb.size, fun k hk _ => hb.block k hk⟩ (by cases h : v.ownBlock <;> simp)
theorem infoA5 : (Tryz.prog.info? 43).map (fun i => (i.zero, i.size, i.bytes)) = some (some (.agg #[.string ⟨#[]⟩, .string ⟨#[]⟩]), 2, 32) := by kernel_rfl
def TokPost (t : Tok) (n : Nat) (w : World) (e : Ending) (w' : World) : Prop := ∃ va, e = .returned (.tuple #[.agg #[.int .i64 t.kind, .string t.name, va, .string t.text], .int .i64 (n : Int)]) ∧ w'.ownsRow w.heap.size 43 2 va t.attrs.length (cellsA t.attrs) ∧ Below w.heap.size w w'
theorem own_slice5 {w : World} {B : Nat} {e : TypeId} {k n : Nat} {v : Value} {xs : List Value} (h : w.ownsRow B e k v n xs) : ∃ a c, v = .slice a n c := by
  rcases h.2 with ⟨rfl, rfl⟩ | ⟨g, cap, cur, rfl, _⟩
  · exact ⟨none, 0, rfl⟩
  · exact ⟨_, _, rfl⟩
theorem own_keep5 {w w' : World} {B : Nat} {e : TypeId} {k n : Nat} {v : Value} {xs : List Value} (h : w.ownsRow B e k v n xs) (hk : ∀ g, v.ownBlock = some g → w'.heap[g]? = w.heap[g]?) : w'.ownsRow B e k v n xs := by
  refine ⟨h.1, ?_⟩
  rcases h.2 with hn | ⟨g, cap, cur, rfl, hb, hg, rest⟩
  · exact .inl hn
  · exact .inr ⟨g, cap, cur, rfl, hb, (hk g rfl).trans hg, rest⟩
theorem own_le {w : World} {B B' : Nat} {e : TypeId} {k n : Nat} {v : Value} {xs : List Value} (h : w.ownsRow B e k v n xs) (hb : B' ≤ B) : w.ownsRow B' e k v n xs := by
  refine ⟨h.1, ?_⟩
  rcases h.2 with hn | ⟨g, cap, cur, rfl, h1, rest⟩
  · exact .inl hn
  · exact .inr ⟨g, cap, cur, rfl, Nat.le_trans hb h1, rest⟩
theorem Box.four {W : World} {g : Nat} {t : TypeId} {z0 z1 z2 z3 : Value} (h : Box W g t [z0, z1, z2, z3]) (c0 c1 c2 c3 : Value) : Box ((((W.setCell ⟨g, 0, none⟩ c0).setCell ⟨g, 1, none⟩ c1).setCell ⟨g, 2, none⟩ c2).setCell ⟨g, 3, none⟩ c3) g t [c0, c1, c2, c3] :=
  (((h.set 0 c0).set 1 c1).set 2 c2).set 3 c3
theorem four_below {B : Nat} {a W : World} (h : Below B a W) {g : Nat} (c0 c1 c2 c3 : Value) (hg : B ≤ g) : Below B a ((((W.setCell ⟨g, 0, none⟩ c0).setCell ⟨g, 1, none⟩ c1).setCell ⟨g, 2, none⟩ c2).setCell ⟨g, 3, none⟩ c3) :=
  (((h.setCell (p := ⟨g, 0, none⟩) hg c0).setCell (p := ⟨g, 1, none⟩) hg c1).setCell (p := ⟨g, 2, none⟩) hg c2).setCell (p := ⟨g, 3, none⟩) hg c3
theorem own_set {W : World} {B g j : Nat} {e : TypeId} {k n : Nat} {v : Value} {xs : List Value} (h : W.ownsRow B e k v n xs) (hg : g < B) (c : Value) : (W.setCell ⟨g, j, none⟩ c).ownsRow B e k v n xs :=
  own_keep5 h fun b hb => Below.heap_setCell W ⟨g, j, none⟩ c b (by have := (h.lt b hb).1; show b ≠ g; omega)
theorem own_four {W : World} {B g : Nat} {e : TypeId} {k n : Nat} {v : Value} {xs : List Value} (h : W.ownsRow B e k v n xs) (hg : g < B) (c0 c1 c2 c3 : Value) : ((((W.setCell ⟨g, 0, none⟩ c0).setCell ⟨g, 1, none⟩ c1).setCell ⟨g, 2, none⟩ c2).setCell ⟨g, 3, none⟩ c3).ownsRow B e k v n xs :=
  own_set (own_set (own_set (own_set h hg c0) hg c1) hg c2) hg c3
theorem wpList_appOne {P : Program} {ops : Array Oper} {rest : List Oper} {o : Oper} {a : Act} {Q : Exit → Act → World → Prop} (w1 : World) (cs : List Value) (hgd : o.guard = none) (s y : Operand) (t e : TypeId)
    (ho : o.op = .call { callee := .builtin .append, args := #[s, y], argTypes := #[t, t] }) (base k : Nat) {z : Value} {bytes : Nat} (ht : P.underlying t = some (.slice e))
    (hinfo : (P.info? e).map (fun i => (i.zero, i.size, i.bytes)) = some (some z, k, bytes)) (hz : z.cells.size = k) (hk : 0 < k)
    (v : Value) (n : Nat) (xs : List Value) (hs : a.eval s = v) (hown : w1.ownsRow base e k v n xs) (H : Nat) (hH : w1.heap.size = H) (hx : a.eval y = .slice (some ⟨H, 0, none⟩) 1 1) (hcs : cs.length = k) (h1 : ∀ u ∈ cs, u.oneCell' = true)
    (h63 : n + 1 ≤ 9223372036854775807) (hbytes : (n + 1) * bytes ≤ 140737488355328) (hbase : base ≤ w1.heap.size)
    (h : ∀ g cap w2, w2.ownsRow base e k (.slice (some ⟨g, 0, none⟩) (n + 1) cap) (n + 1) (xs ++ cs) → w1.grownBy w2 v.ownBlock → (v.ownBlock = some g ∨ w1.heap.size ≤ g) → wpList P ops Q rest (a.put o.dst (.slice (some ⟨g, 0, none⟩) (n + 1) cap)) w2) : wpList P ops Q (o :: rest) a (w1.alloc (.cells cs.toArray e)) := by
  subst hH
  obtain ⟨i, hi, hz0, hz1, hz2⟩ := info_parts hinfo
  refine wpList_append_lies _ hgd s y t ho base e i z k bytes ht hi hz0 hz1 hz2 hz hk v n xs hs (hown.alloc _) ⟨w1.heap.size, 0, none⟩ 1 1 cs hx (by omega) ?_ h1 (by omega) (by unfold maxLen; omega) hbytes (by simp; omega) _ rfl ?_
  · intro j u hj
    rw [add_plain', Nat.zero_add, World.cell?_alloc_at _ _ _ _ rfl]
    simpa using hj
  · intro g cap w2 h2 h3 h4 _
    exact h g cap w2 h2 (grownBy_of_alloc h3) (by
      rcases h4 with h4 | h4
      · exact .inl h4
      · right; rw [h4]; simp)
end Go.Proofs.YteefodibpjgicaaGreat

namespace Go.Proofs.YteefodibpjgicaaGreat
open Go.RowKit
theorem two_signs {s : ByteArray} (h : M5.startsB s.data.toList = true) : ∃ h2 : 1 < s.size, s.data.toList = s[0] :: s[1] :: s.data.toList.drop 2 := by
  have h2 : 1 < s.size := by
    rcases Nat.lt_or_ge 1 s.size with h1 | h1
    · exact h1
    · have hl : s.data.toList.length ≤ 1 := h1
      match hs : s.data.toList, hl with
      | [], _ => rw [hs] at h; cases h
      | [c], _ => rw [hs] at h; cases h
  exact ⟨h2, by rw [← drop_cons s 1 h2, ← drop_cons s 0 (by omega)]; rfl⟩
theorem tag_no (l : List UInt8) (h : M5.startsB l = false) : M5.tagR l = (M5.zero, l.drop 0) := by
  unfold M5.tagR
  rw [h]
  rfl
theorem tag_begin (c d : UInt8) (r : List UInt8) (h : M5.startsB (c :: d :: r) = true) (hd : M5.letterB d = true) : M5.tagR (c :: d :: r) = M5.beginR (c :: d :: r) := by
  unfold M5.tagR
  rw [if_pos h]
  show (if M5.letterB d then _ else _ : Tok × List UInt8) = _
  rw [if_pos hd]
theorem tag_else (c d : UInt8) (r : List UInt8) (h : M5.startsB (c :: d :: r) = true) (hd : M5.letterB d = false) : M5.tagR (c :: d :: r) =
    if [60, 33, 45, 45].isPrefixOf (c :: d :: r) then (⟨4, ⟨#[]⟩, [], M5.bs (M5.uptoR [45, 45, 62] ((c :: d :: r).drop 4)).1⟩, (M5.uptoR [45, 45, 62] ((c :: d :: r).drop 4)).2)
    else if [60, 47, 62].isPrefixOf (c :: d :: r) then (M5.zero, (c :: d :: r).drop 3)
    else if d = 47 ∧ (r.head?.map M5.letterB) = some true then
      (if M5.findL [62] r < r.length then (⟨2, M5.bs (M1.fold (r.takeWhile M5.nameB)), [], ⟨#[]⟩⟩, r.drop (M5.findL [62] r + 1)) else (M5.zero, []))
    else (⟨4, ⟨#[]⟩, [], M5.bs (M5.uptoR [62] r).1⟩, (M5.uptoR [62] r).2) := by
  unfold M5.tagR
  rw [if_pos h]
  show (if M5.letterB d then _ else _ : Tok × List UInt8) = _
  rw [if_neg (by rw [hd]; exact Bool.false_ne_true)]
end Go.Proofs.YteefodibpjgicaaGreat

namespace Go.Proofs.YteefodibpjgicaaGreat
open Go.RowKit
def Tok.cells (t : Tok) (va : Value) : List Value := [.int .i64 t.kind, .string t.name, va, .string t.text]
theorem Tok.cells_len (t : Tok) (va : Value) : (t.cells va).length = 4 := rfl
def RepT (S : Nat → Prop) (w : World) : List Value → List Tok → Prop
  | xs, [] => xs = []
  | xs, t :: r => ∃ va ys, xs = t.cells va ++ ys ∧ Row S w 2 va t.attrs.length (cellsA t.attrs) ∧ RepT S w ys r
theorem RepT.keep {S : Nat → Prop} {w w' : World} (hk : ∀ b, S b → w'.heap[b]? = w.heap[b]?) : ∀ (l : List Tok) (xs : List Value), RepT S w xs l → RepT S w' xs l
  | [], _, h => h
  | _ :: r, _, ⟨va, ys, h1, h2, h3⟩ => ⟨va, ys, h1, h2.keep hk, RepT.keep hk r ys h3⟩
theorem RepT.mono {S S' : Nat → Prop} {w : World} (hs : ∀ b, S b → S' b) : ∀ (l : List Tok) (xs : List Value), RepT S w xs l → RepT S' w xs l
  | [], _, h => h
  | _ :: r, _, ⟨va, ys, h1, h2, h3⟩ => ⟨va, ys, h1, h2.mono hs, RepT.mono hs r ys h3⟩
theorem RepT.snoc {S : Nat → Prop} {w : World} {t : Tok} {va : Value} (h : Row S w 2 va t.attrs.length (cellsA t.attrs)) : ∀ (l : List Tok) (xs : List Value), RepT S w xs l → RepT S w (xs ++ t.cells va) (l ++ [t])
  | [], xs, e => by
    have e : xs = [] := e
    subst e
    exact ⟨va, [], by simp, h, rfl⟩
  | _ :: r, _, ⟨vb, ys, h1, h2, h3⟩ => ⟨vb, ys ++ t.cells va, by rw [h1, List.append_assoc], h2, RepT.snoc h r ys h3⟩
theorem RepT.at_ {S : Nat → Prop} {w : World} : ∀ (l : List Tok) (xs : List Value) (i : Nat) (hi : i < l.length), RepT S w xs l → ∃ va, Row S w 2 va l[i].attrs.length (cellsA l[i].attrs) ∧
    xs[i * 4]? = some (.int .i64 l[i].kind) ∧ xs[i * 4 + 1]? = some (.string l[i].name) ∧ xs[i * 4 + 2]? = some va ∧ xs[i * 4 + 3]? = some (.string l[i].text)
  | [], _, i, hi, _ => by simp at hi
  | t :: r, _, 0, _, ⟨va, ys, h1, h2, _⟩ => by subst h1; exact ⟨va, h2, rfl, rfl, rfl, rfl⟩
  | t :: r, _, i + 1, hi, ⟨va, ys, h1, _, h3⟩ => by
    obtain ⟨vb, q0, q1, q2, q3, q4⟩ := RepT.at_ r ys i (by simpa using hi) h3
    subst h1
    refine ⟨vb, q0, ?_, ?_, ?_, ?_⟩
    · rw [List.getElem?_append_right (by rw [Tok.cells_len]; omega), Tok.cells_len, show (i + 1) * 4 - 4 = i * 4 by omega]; exact q1
    · rw [List.getElem?_append_right (by rw [Tok.cells_len]; omega), Tok.cells_len, show (i + 1) * 4 + 1 - 4 = i * 4 + 1 by omega]; exact q2
    · rw [List.getElem?_append_right (by rw [Tok.cells_len]; omega), Tok.cells_len, show (i + 1) * 4 + 2 - 4 = i * 4 + 2 by omega]; exact q3
    · rw [List.getElem?_append_right (by rw [Tok.cells_len]; omega), Tok.cells_len, show (i + 1) * 4 + 3 - 4 = i * 4 + 3 by omega]; exact q4
def Toks (w : World) (B : Nat) (v : Value) (l : List Tok) : Prop := ∃ xs, w.ownsRow B 87 4 v l.length xs ∧ RepT (fun b => B ≤ b ∧ b < w.heap.size ∧ v.ownBlock ≠ some b) w xs l
theorem Toks.nil (w : World) (B : Nat) : Toks w B (.slice none 0 0) [] := ⟨[], World.ownsRow_nil _ _ _ _, rfl⟩
theorem Toks.slice {w : World} {B : Nat} {v : Value} {l : List Tok} (h : Toks w B v l) : ∃ a c, v = .slice a l.length c := by
  obtain ⟨xs, h1, _⟩ := h
  exact own_slice5 h1
theorem Toks.lt {w : World} {B : Nat} {v : Value} {l : List Tok} (h : Toks w B v l) {b : Nat} (hb : v.ownBlock = some b) : B ≤ b ∧ b < w.heap.size := by
  obtain ⟨xs, h1, _⟩ := h
  exact h1.lt b hb
theorem Toks.keep {w w' : World} {B : Nat} {v : Value} {l : List Tok} (h : Toks w B v l) (hz : w.heap.size ≤ w'.heap.size) (hk : ∀ b, B ≤ b → b < w.heap.size → w'.heap[b]? = w.heap[b]?) : Toks w' B v l := by
  obtain ⟨xs, h1, h2⟩ := h
  refine ⟨xs, own_keep5 h1 (fun g hg => hk g (h1.lt g hg).1 (h1.lt g hg).2), ?_⟩
  exact RepT.mono (fun b hb => ⟨hb.1, Nat.lt_of_lt_of_le hb.2.1 hz, hb.2.2⟩) _ _ (RepT.keep (fun b hb => hk b hb.1 hb.2.1) _ _ h2)
theorem Toks.below {w w' : World} {B : Nat} {v : Value} {l : List Tok} (h : Toks w B v l) (hb : Below w.heap.size w w') : Toks w' B v l := h.keep hb.size (fun b _ hlt => hb.block b hlt)
theorem Toks.alloc {w : World} {B : Nat} {v : Value} {l : List Tok} (h : Toks w B v l) (o : Obj) : Toks (w.alloc o) B v l := h.below ((Below.refl _ w).alloc (Nat.le_refl _) o)
theorem Toks.set {w : World} {B g j : Nat} {v : Value} {l : List Tok} (h : Toks w B v l) (hg : g < B) (c : Value) : Toks (w.setCell ⟨g, j, none⟩ c) B v l :=
  h.keep (by simp) (fun b hb _ => Below.heap_setCell w ⟨g, j, none⟩ c b (by show b ≠ g; omega))
theorem Toks.rows {w : World} {B : Nat} {v : Value} {l : List Tok} (h : Toks w B v l) : ∃ xs, Row (fun b => B ≤ b ∧ b < w.heap.size) w 4 v l.length xs ∧ RepT (fun b => B ≤ b ∧ b < w.heap.size) w xs l := by
  obtain ⟨xs, h1, h2⟩ := h
  exact ⟨xs, Row.own h1 (fun g hg => h1.lt g hg), RepT.mono (fun b hb => ⟨hb.1, hb.2.1⟩) _ _ h2⟩
theorem infoT5 : (Tryz.prog.info? 87).map (fun i => (i.zero, i.size, i.bytes)) = some (some (.agg #[.int .i64 0, .string ⟨#[]⟩, .slice none 0 0, .string ⟨#[]⟩]), 4, 64) := by kernel_rfl
theorem Toks.snoc {w w' : World} {B g cap : Nat} {v va : Value} {l : List Tok} {t : Tok} {xs : List Value} (hrep : RepT (fun b => B ≤ b ∧ b < w.heap.size ∧ v.ownBlock ≠ some b) w xs l)
    (hrow : Row (fun b => B ≤ b ∧ b < w.heap.size ∧ v.ownBlock ≠ some b) w 2 va t.attrs.length (cellsA t.attrs)) (hgrow : w.grownBy w' v.ownBlock) (hat : v.ownBlock = some g ∨ w.heap.size ≤ g)
    (hown : w'.ownsRow B 87 4 (.slice (some ⟨g, 0, none⟩) (l.length + 1) cap) (l.length + 1) (xs ++ t.cells va)) : Toks w' B (.slice (some ⟨g, 0, none⟩) (l.length + 1) cap) (l ++ [t]) := by
  refine ⟨xs ++ t.cells va, by rw [List.length_append]; exact hown, ?_⟩
  have hk : ∀ b, (B ≤ b ∧ b < w.heap.size ∧ v.ownBlock ≠ some b) → w'.heap[b]? = w.heap[b]? := fun b hb => hgrow.block b hb.2.1 (fun e => hb.2.2 e.symm)
  have hm : ∀ b, (B ≤ b ∧ b < w.heap.size ∧ v.ownBlock ≠ some b) → (B ≤ b ∧ b < w'.heap.size ∧ (Value.slice (some ⟨g, 0, none⟩) (l.length + 1) cap).ownBlock ≠ some b) := fun b hb => by
    refine ⟨hb.1, Nat.lt_of_lt_of_le hb.2.1 hgrow.size, fun e => ?_⟩
    have e : g = b := Option.some.inj e
    subst e
    rcases hat with h | h
    · exact hb.2.2 h
    · omega
  exact RepT.mono hm _ _ (RepT.snoc (hrow.keep hk) _ _ (RepT.keep hk _ _ hrep))
end Go.Proofs.YteefodibpjgicaaGreat

namespace Go.Proofs.YteefodibpjgicaaGreat
open Go.RowKit Go.Maps
theorem bNodes {F : Nat → Prop} {w : World} {g mb q : Nat} {s : M7.St} (h : BS F w g mb s q) (hq : q ≤ 400000) :
    Calls Tryz.prog 206 #[.pointer (some ⟨g, 0, none⟩)] w fun e W' => ∃ v, e = .returned v ∧ Fresh W' w.heap.size v s.L ∧ BS F W' g mb s q ∧ Out F w W' :=
  (callsIn_wide (n := 3)).1 (bNodes_in 3 (by omega) h hq)
def root0 : FV := ⟨.mk 0 ⟨#[]⟩ [] ⟨#[]⟩ [], .slice none 0 0, .slice none 0 0, 0⟩
theorem inv0 : BInv [root0] [] 0 (.map []) ⟨[], 0⟩ 0 := by
  refine ⟨rfl, rfl, fun j f h => by simp at h, fun A f h => ?_, fun j f h => by simp at h, fun nm => ⟨rfl, rfl⟩, by simp, by simp, by simp, by show M3.weight [] ≤ _; rw [M3.weight_nil]; omega, fun f h => ?_⟩
  · have : f = root0 := by
      have := congrArg List.getLast? h
      rw [List.getLast?_concat] at this
      simp at this
      exact this.symm
    subst this
    exact M7.noTx_nil
  · have : root0 = f := by simpa using h
    subst this
    rfl
set_option maxHeartbeats 4000000 in
set_option maxRecDepth 100000 in
theorem bNew (w : World) : Calls Tryz.prog 204 #[] w fun e w' => ∃ g mb, e = .returned (.pointer (some ⟨g, 0, none⟩)) ∧ BS (fun b => w.heap.size ≤ b ∧ b < w'.heap.size) w' g mb ⟨[], 0⟩ 0 ∧ Below w.heap.size w w' := by
  have hmm := @run_makeMap Tryz.prog 191
  have hb : Below w.heap.size w (((w.alloc (.cells #[.int .i64 0, .string ⟨#[]⟩, .slice none 0 0, .string ⟨#[]⟩, .slice none 0 0, .int .i64 0] 189)).alloc (.map #[] 0)).alloc (.cells #[.slice (some ⟨w.heap.size, 0, none⟩) 1 1, .pointer none, .slice none 0 0, .map (some (w.heap.size + 1))] 193)) := (((Below.refl _ w).alloc (Nat.le_refl _) _).alloc (by simp) _).alloc (by simp; omega) _
  have hB : Bld (fun b => w.heap.size ≤ b ∧ b < w.heap.size + 3) (((w.alloc (.cells #[.int .i64 0, .string ⟨#[]⟩, .slice none 0 0, .string ⟨#[]⟩, .slice none 0 0, .int .i64 0] 189)).alloc (.map #[] 0)).alloc (.cells #[.slice (some ⟨w.heap.size, 0, none⟩) 1 1, .pointer none, .slice none 0 0, .map (some (w.heap.size + 1))] 193)) (w.heap.size + 2) (w.heap.size + 1) (.slice (some ⟨w.heap.size, 0, none⟩) 1 1) (.slice none 0 0) (.pointer none) [root0] [] 0 (.map []) := by
    have hs1 : (w.alloc (.cells #[.int .i64 0, .string ⟨#[]⟩, .slice none 0 0, .string ⟨#[]⟩, .slice none 0 0, .int .i64 0] 189)).heap.size = w.heap.size + 1 := by simp
    have hs2 : ((w.alloc (.cells #[.int .i64 0, .string ⟨#[]⟩, .slice none 0 0, .string ⟨#[]⟩, .slice none 0 0, .int .i64 0] 189)).alloc (.map #[] 0)).heap.size = w.heap.size + 2 := by simp
    have hbx := Box.new ((w.alloc (.cells #[.int .i64 0, .string ⟨#[]⟩, .slice none 0 0, .string ⟨#[]⟩, .slice none 0 0, .int .i64 0] 189)).alloc (.map #[] 0)) 193 [.slice (some ⟨w.heap.size, 0, none⟩) 1 1, .pointer none, .slice none 0 0, .map (some (w.heap.size + 1))]
    rw [hs2] at hbx
    have hrow : (w.alloc (.cells #[.int .i64 0, .string ⟨#[]⟩, .slice none 0 0, .string ⟨#[]⟩, .slice none 0 0, .int .i64 0] 189)).ownsRow 0 189 6 (.slice (some ⟨w.heap.size, 0, none⟩) 1 1) 1 (cellsF [root0]) :=
      ⟨rfl, .inr ⟨w.heap.size, 1, _, rfl, Nat.zero_le _, heap_alloc_new w _, Nat.le_refl _, by unfold maxLen; omega, rfl, rfl⟩⟩
    have hmap := World.ownsMap_made (H := Unit) (w.alloc (.cells #[.int .i64 0, .string ⟨#[]⟩, .slice none 0 0, .string ⟨#[]⟩, .slice none 0 0, .int .i64 0] 189)) Tryz.prog 9 (plainElem Tryz.prog 3)
    rw [hs1] at hmap
    have hrole : ∀ i c, roleB (w.heap.size + 2) (w.heap.size + 1) (.slice (some ⟨w.heap.size, 0, none⟩) 1 1) (.slice none 0 0) [root0] i = some c → (i = 0 ∧ c = w.heap.size + 2) ∨ (i = 1 ∧ c = w.heap.size + 1) ∨ (i = 2 ∧ c = w.heap.size) := fun i c h => by
      match i, h with
      | 0, h => exact .inl ⟨rfl, (Option.some.inj h).symm⟩
      | 1, h => exact .inr (.inl ⟨rfl, (Option.some.inj h).symm⟩)
      | 2, h => exact .inr (.inr ⟨rfl, (Option.some.inj h).symm⟩)
      | 3, h => cases h
      | 4, h => cases h
      | i + 5, h =>
        have h : (([root0] : List FV)[i + 1]?).bind (fun f => f.vk.ownBlock) = some c := h
        rw [List.getElem?_eq_none (by simp)] at h
        cases h
    refine ⟨hbx, .inl rfl, (hrow.alloc _).alloc _, World.ownsRowF_nil _ _ _ _, hmap.alloc _, fun f hf => ?_, fun f hf => ?_, fun i j c h1 h2 => ?_, fun i c h => ?_, fun b hb => by simp; omega⟩
    · obtain rfl := List.mem_singleton.1 hf
      exact ⟨[], World.ownsRow_nil _ _ _ _, RepC.nil _ _⟩
    · obtain rfl := List.mem_singleton.1 hf
      exact Row.nil _ _ _
    · rcases hrole i c h1 with ⟨h3, h4⟩ | ⟨h3, h4⟩ | ⟨h3, h4⟩ <;> rcases hrole j c h2 with ⟨h5, h6⟩ | ⟨h5, h6⟩ | ⟨h5, h6⟩ <;> omega
    · rcases hrole i c h with ⟨h3, h4⟩ | ⟨h3, h4⟩ | ⟨h3, h4⟩ <;> omega
  have hsz : (((w.alloc (.cells #[.int .i64 0, .string ⟨#[]⟩, .slice none 0 0, .string ⟨#[]⟩, .slice none 0 0, .int .i64 0] 189)).alloc (.map #[] 0)).alloc (.cells #[.slice (some ⟨w.heap.size, 0, none⟩) 1 1, .pointer none, .slice none 0 0, .map (some (w.heap.size + 1))] 193)).heap.size = w.heap.size + 3 := by simp
  have hP : Hid (∃ g mb, (Ending.returned (.pointer (some ⟨w.heap.size + 2, 0, none⟩))) = .returned (.pointer (some ⟨g, 0, none⟩)) ∧ BS (fun b => w.heap.size ≤ b ∧ b < (((w.alloc (.cells #[.int .i64 0, .string ⟨#[]⟩, .slice none 0 0, .string ⟨#[]⟩, .slice none 0 0, .int .i64 0] 189)).alloc (.map #[] 0)).alloc (.cells #[.slice (some ⟨w.heap.size, 0, none⟩) 1 1, .pointer none, .slice none 0 0, .map (some (w.heap.size + 1))] 193)).heap.size) _ g mb ⟨[], 0⟩ 0 ∧ Below w.heap.size w _) :=
    ⟨_, _, rfl, ⟨_, _, _, _, _, _, _, by rw [hsz]; exact hB, inv0⟩, hb⟩
  clear hB hb hsz
  go_enter Tryz.func204, Tryz.ntmps204
  go_wp2
  go_ret
  exact hP.out
end Go.Proofs.YteefodibpjgicaaGreat

namespace Go.Proofs.YteefodibpjgicaaGreat
open Go.RowKit Go.Maps
def TokR (S : Nat → Prop) (w : World) (v : Value) (l : List Tok) : Prop := ∃ xs, Row S w 4 v l.length xs ∧ RepT S w xs l
theorem TokR.keep {S : Nat → Prop} {w w' : World} {v : Value} {l : List Tok} (h : TokR S w v l) (hk : ∀ b, S b → w'.heap[b]? = w.heap[b]?) : TokR S w' v l := by
  obtain ⟨xs, h1, h2⟩ := h
  exact ⟨xs, h1.keep hk, RepT.keep hk _ _ h2⟩
theorem TokR.at_ {S : Nat → Prop} {w : World} {a : Option Addr} {n cap : Nat} {l : List Tok} (h : TokR S w (.slice a n cap) l) (i : Nat) (hi : i < l.length) : ∃ b off va, a = some ⟨b, off, none⟩ ∧ S b ∧ Row S w 2 va l[i].attrs.length (cellsA l[i].attrs) ∧
    w.cell? ⟨b, off + i * 4, none⟩ = some (.int .i64 l[i].kind) ∧ w.cell? ⟨b, off + i * 4 + 1, none⟩ = some (.string l[i].name) ∧ w.cell? ⟨b, off + i * 4 + 2, none⟩ = some va ∧ w.cell? ⟨b, off + i * 4 + 3, none⟩ = some (.string l[i].text) := by
  obtain ⟨xs, ⟨h0, a', cap', h1, h2, h3, h4, h5⟩, h6⟩ := h
  cases h1
  obtain ⟨b, off, rfl, h7, h8⟩ := h5 (by omega)
  obtain ⟨va, q0, q1, q2, q3, q4⟩ := RepT.at_ l xs i hi h6
  exact ⟨b, off, va, rfl, h7, q0, h8 _ _ q1, h8 _ _ q2, h8 _ _ q3, h8 _ _ q4⟩
theorem TokR.slice {S : Nat → Prop} {w : World} {v : Value} {l : List Tok} (h : TokR S w v l) : ∃ a c, v = .slice a l.length c := by
  obtain ⟨xs, h1, _⟩ := h
  exact h1.slice
def sumQ (l : List Tok) (i : Nat) : Nat := ((l.take i).map tokQ).sum
theorem sumQ_succ (l : List Tok) (i : Nat) (h : i < l.length) : sumQ l (i + 1) = sumQ l i + tokQ l[i] := by
  unfold sumQ
  rw [List.take_succ_eq_append_getElem h, List.map_append, List.sum_append]
  simp
theorem sumQ_le (l : List Tok) (i : Nat) : sumQ l i ≤ (l.map tokQ).sum := by
  unfold sumQ
  have : (l.map tokQ).sum = ((l.take i).map tokQ).sum + ((l.drop i).map tokQ).sum := by rw [← List.sum_append, ← List.map_append, List.take_append_drop]
  omega
theorem len_sumQ (l : List Tok) : l.length ≤ (l.map tokQ).sum := by
  induction l with
  | nil => simp
  | cons t r ih => rw [List.map_cons, List.sum_cons, List.length_cons]; unfold tokQ at *; omega
def FitL (l : List Tok) : Prop := (l.map tokQ).sum ≤ 400000 ∧ ∀ t ∈ l, FitT t ∧ (Lit.int .i64 t.kind).wf = true
theorem Out.low {F : Nat → Prop} {w w1 w2 : World} (h : Below w.heap.size w w1) (k : Out F w1 w2) (hF : ∀ b, F b → w.heap.size ≤ b) : Below w.heap.size w w2 :=
  ⟨k.os.trans h.os, k.tape.trans h.tape, k.output.trans h.output, Nat.le_trans h.size k.size, fun b hb => (k.block b (Nat.lt_of_lt_of_le hb h.size) (fun e => by have := hF b e; omega)).trans (h.block b hb)⟩
set_option maxHeartbeats 8000000 in
set_option maxRecDepth 100000 in
theorem bTree (S : Nat → Prop) (v : Value) (l : List Tok) (w : World) (hS : ∀ b, S b → b < w.heap.size) (hr : TokR S w v l) (hf : FitL l) :
    Calls Tryz.prog 203 #[v] w (FreshPost (M7.tree l) w) := by
  obtain ⟨a, cap, rfl⟩ := hr.slice
  obtain ⟨hq0, hft⟩ := hf
  have hl := len_sumQ l
  have hN := Lib.hid (fun W => bNew W)
  replace hft := Lib.hid hft
  obtain ⟨wo, rfl⟩ : ∃ wo : World, wo = w := ⟨_, rfl⟩
  go_enter Tryz.func203, Tryz.ntmps203
  go_wp2_with fail
  refine (hN.out _).mono ?_
  rintro e w1 ⟨g, mb, rfl, hB1, hb1⟩
  have h0 : Hid (∃ F, BS F w1 g mb (M7.run (l.take 0)) (sumQ l 0) ∧ (∀ b, F b → wo.heap.size ≤ b)) := ⟨_, hB1, fun b hb => hb.1⟩
  clear hB1
  go_wp2_with fail
  go_loopw [9] (fun u9 wr => ∃ i : Nat, i ≤ l.length ∧ u9 = .int .i64 (i : Int) ∧ Hid (∃ F, BS F wr g mb (M7.run (l.take i)) (sumQ l i) ∧ (∀ b, F b → wo.heap.size ≤ b)) ∧ Below wo.heap.size wo wr) (fun u9 _ => l.length - (intOf u9).toNat)
  case atStart => exact ⟨0, by omega, rfl, h0, hb1⟩
  case round =>
    obtain ⟨i, hi, rfl, hBS, hb⟩ := hrel
    have hz := hb.size
    clear h0
    by_cases hlt : i < l.length
    · obtain ⟨F, hBS, hF⟩ := hBS.out
      obtain ⟨b, off, va, rfl, hSb, hat, c0, c1, c2, c3⟩ := (hr.keep (w' := wr) (fun b hb' => hb.block b (hS b hb'))).at_ i hlt
      have hbl := hS b hSb
      obtain ⟨hfi, hkw⟩ := hft.out _ (List.getElem_mem hlt)
      have htk : M7.run (l.take (i + 1)) = M7.step (M7.run (l.take i)) l[i] := by
        rw [List.take_succ_eq_append_getElem hlt, M7.run_snoc]
      have hqs := Lib.hid (sumQ_succ l i hlt)
      have hql := sumQ_le l i
      generalize l[i] = tk at *
      obtain ⟨av, cv, rfl⟩ := hat.slice
      have hb2 : Below wr.heap.size wr (wr.alloc (.cells #[.int .i64 tk.kind, .string tk.name, .slice av tk.attrs.length cv, .string tk.text] 87)) := (Below.refl _ wr).alloc (Nat.le_refl _) _
      have bX := Box.new wr 87 [.int .i64 tk.kind, .string tk.name, .slice av tk.attrs.length cv, .string tk.text]
      change Box (wr.alloc (.cells #[.int .i64 tk.kind, .string tk.name, .slice av tk.attrs.length cv, .string tk.text] 87)) _ _ _ at bX
      replace hBS := Lib.hid hBS
      replace hF := Lib.hid hF
      replace htk := Lib.hid htk
      replace hat := Lib.hid hat
      replace hkw := Lib.hid hkw
      replace bX := Lib.hid bX
      go_upto_region 5 with fail
      obtain ⟨w2, hw2⟩ : ∃ W, wr.alloc (.cells #[.int .i64 tk.kind, .string tk.name, .slice av tk.attrs.length cv, .string tk.text] 87) = W := ⟨_, rfl⟩
      rw [hw2] at hb2 bX ⊢
      have hzz := hb2.size
      have y0 := bX.out.cell (i := 0) rfl
      have y1 := bX.out.cell (i := 1) rfl
      have y2 := bX.out.cell (i := 2) rfl
      have y3 := bX.out.cell (i := 3) rfl
      have hP := Lib.hid (bPut (S := S) (tk := tk) (va := .slice av tk.attrs.length cv) (hBS.out.below hb2) (by omega) hfi hkw.out (fun b h => ⟨by have := hS b h; omega, fun e => by have := hF.out b e; have := hS b h; omega⟩) (hat.out.keep (fun b h => hb2.block b (by have := hS b h; omega))))
      clear hw2 c0 c1 c2 c3
      go_wp2_with fail
      refine hP.out.mono ?_
      rintro e w3 ⟨rfl, hB3, hO3⟩
      have hb3 : Below wo.heap.size wo w3 := Out.low (bt hb hb2) hO3 hF.out
      have hn : Hid (∃ F, BS F w3 g mb (M7.run (l.take (i + 1))) (sumQ l (i + 1)) ∧ (∀ b, F b → wo.heap.size ≤ b)) := ⟨grw F w2 w3, by rw [htk.out, hqs.out]; exact hB3, fun b hb' => Or.elim hb' (hF.out b) (fun e => by omega)⟩
      clear hB3 hO3 y0 y1 y2 y3
      go_wp2_with fail
      go_roundw
      case rel => exact ⟨i + 1, by omega, by go_num, hn, hb3⟩
      case measure => exact meas_nat hlt
    · obtain rfl : i = l.length := by omega
      obtain ⟨F, hBS2, hF⟩ := hBS.out
      rw [List.take_length] at hBS2
      have hqe := sumQ_le l l.length
      have hNd := Lib.hid (bNodes hBS2 (by omega))
      clear hBS2 hBS
      replace hF := Lib.hid hF
      go_wp2_with fail
      refine hNd.out.mono ?_
      rintro e w3 ⟨v3, rfl, hf3, -, hO3⟩
      have hb3 : Below wo.heap.size wo w3 := Out.low hb hO3 hF.out
      have hres : Hid (Fresh w3 wo.heap.size v3 (M7.tree l)) := hf3.base hz
      clear hf3 hO3
      go_wp2_with fail
      go_ret
      exact ⟨v3, rfl, hres.out, hb3⟩
end Go.Proofs.YteefodibpjgicaaGreat

namespace Go.Proofs.YteefodibpjgicaaGreat
namespace M5
theorem addT_len (acc : List Att) (a : Att) : (addT acc a).length ≤ acc.length + 1 := by
  unfold addT
  split
  · omega
  · simp
theorem atts_count (n : Nat) : ∀ (l : List UInt8) (acc as_ : List Att) (r : List UInt8), attsF n l acc = some (as_, r) → as_.length + r.length ≤ acc.length + l.length := by
  induction n with
  | zero => intro l acc as_ r h; cases l <;> simp [attsF] at h
  | succ n ih =>
    intro l acc as_ r h
    cases l with
    | nil => simp [attsF] at h
    | cons c t =>
      rw [attsF] at h
      rw [List.length_cons]
      by_cases h62 : c = 62
      · rw [if_pos h62] at h; cases h; omega
      rw [if_neg h62] at h
      cases hst : stopB c
      · rw [hst, if_neg Bool.false_ne_true] at h
        split at h
        · have h1 := ih _ _ _ _ h
          have h2 := attr_lt c t hst
          have h3 := addT_len acc (attrAt (c :: t)).1
          rw [List.length_cons] at h2
          omega
        · cases h
      · rw [hst, if_pos rfl] at h
        have := ih _ _ _ _ h
        omega
def TB (N : Nat) (t : Tok) : Prop := t.name.size ≤ N ∧ t.text.size ≤ 4 * N ∧ t.attrs.length ≤ N ∧ (t.kind = 1 ∨ t.kind = 2 ∨ t.kind = 3 ∨ t.kind = 4)
theorem TB.mono {N M : Nat} {t : Tok} (h : TB N t) (hm : N ≤ M) : TB M t := ⟨by have := h.1; omega, by have := h.2.1; omega, by have := h.2.2.1; omega, h.2.2.2⟩
theorem fold_len (l : List UInt8) : (M1.fold l).length = l.length := by unfold M1.fold; simp
theorem bs_sz (l : List UInt8) : (bs l).size = l.length := by unfold bs; rfl
theorem tw_len (p : UInt8 → Bool) (l : List UInt8) : (l.takeWhile p).length ≤ l.length := (List.takeWhile_prefix p).length_le
theorem upto_Q (w l : List UInt8) : (uptoR w l).1.length + (uptoR w l).2.length ≤ l.length := by
  unfold uptoR
  have := findL_le w l
  split
  · show (l.take _).length + (l.drop _).length ≤ _
    rw [List.length_take, List.length_drop]; omega
  · show l.length + 0 ≤ _; omega
theorem tag_Q (l : List UInt8) (h : startsB l = true) : ((tagR l).1.kind ≠ 0 → TB l.length (tagR l).1) ∧ tokQ (tagR l).1 + (tagR l).2.length ≤ l.length := by
  match l with
  | [] => cases h
  | [c] => cases h
  | c :: d :: r =>
    have hlen : (c :: d :: r).length = r.length + 2 := rfl
    rw [tagR, if_pos h]
    show ((if letterB d then _ else _ : Tok × List UInt8).1.kind ≠ 0 → TB _ (if letterB d then _ else _ : Tok × List UInt8).1) ∧ tokQ (if letterB d then _ else _ : Tok × List UInt8).1 + (if letterB d then _ else _ : Tok × List UInt8).2.length ≤ _
    have zq : ∀ x : List UInt8, x.length + 1 ≤ r.length + 2 → ((zero, x) : Tok × List UInt8).1.kind ≠ 0 → False := fun x _ k => k rfl
    split
    · rw [begin_eq]
      cases ha : attsR (((c :: d :: r).drop 1).dropWhile nameB) [] with
      | none => exact ⟨fun k => absurd rfl k, by show 1 + 0 ≤ _; omega⟩
      | some p =>
        have h1 := atts_count _ _ _ p.1 p.2 ha
        have h2 := (Suf.dropWhile nameB ((c :: d :: r).drop 1)).le
        have h3 : ((c :: d :: r).drop 1).length = r.length + 1 := rfl
        have h4 := tw_len nameB ((c :: d :: r).drop 1)
        simp only [List.length_nil] at h1
        refine ⟨fun _ => ⟨?_, ?_, ?_, .inl rfl⟩, ?_⟩
        · show (bs _).size ≤ _
          rw [bs_sz, fold_len]; omega
        · show (0 : Nat) ≤ _; omega
        · show p.1.length ≤ _; omega
        · show 1 + p.1.length + 0 + p.2.length ≤ _; omega
    · split
      · have h1 := upto_Q [45, 45, 62] ((c :: d :: r).drop 4)
        rw [List.length_drop] at h1
        refine ⟨fun _ => ⟨?_, ?_, ?_, .inr (.inr (.inr rfl))⟩, ?_⟩
        · show (0 : Nat) ≤ _; omega
        · show (bs _).size ≤ _; rw [bs_sz]; omega
        · show (0 : Nat) ≤ _; omega
        · show 1 + 0 + (bs _).size + _ ≤ _
          rw [bs_sz]
          show 1 + 0 + (uptoR [45, 45, 62] ((c :: d :: r).drop 4)).1.length + (uptoR [45, 45, 62] ((c :: d :: r).drop 4)).2.length ≤ _
          omega
      · split
        · refine ⟨fun k => absurd rfl k, ?_⟩
          show 1 + ((c :: d :: r).drop 3).length ≤ _
          rw [List.length_drop]; omega
        · split
          · split
            · have h4 := tw_len nameB r
              refine ⟨fun _ => ⟨?_, ?_, ?_, .inr (.inl rfl)⟩, ?_⟩
              · show (bs _).size ≤ _; rw [bs_sz, fold_len]; omega
              · show (0 : Nat) ≤ _; omega
              · show (0 : Nat) ≤ _; omega
              · show 1 + 0 + 0 + (r.drop _).length ≤ _
                rw [List.length_drop]; omega
            · exact ⟨fun k => absurd rfl k, by show 1 + 0 ≤ _; omega⟩
          · have h1 := upto_Q [62] r
            refine ⟨fun _ => ⟨?_, ?_, ?_, .inr (.inr (.inr rfl))⟩, ?_⟩
            · show (0 : Nat) ≤ _; omega
            · show (bs _).size ≤ _; rw [bs_sz]; omega
            · show (0 : Nat) ≤ _; omega
            · show 1 + 0 + (bs _).size + (uptoR [62] r).2.length ≤ _
              rw [bs_sz]; omega
def qs (l : List Tok) : Nat := (l.map tokQ).sum
theorem qs_app (a b : List Tok) : qs (a ++ b) = qs a + qs b := by unfold qs; rw [List.map_append, List.sum_append]
theorem qs_nil : qs [] = 0 := rfl
theorem qs_one (t : Tok) : qs [t] = tokQ t := by unfold qs; simp
theorem chars_Q (p : List UInt8) : qs (charsT p) ≤ 5 * p.length ∧ ∀ t ∈ charsT p, TB p.length t := by
  unfold charsT
  cases p with
  | nil => exact ⟨Nat.le_refl _, fun t h => (nomatch h)⟩
  | cons c r =>
    have h := M2.decode_len (c :: r).length (c :: r) (Nat.le_refl _)
    rw [if_neg (by simp)]
    refine ⟨?_, fun t ht => ?_⟩
    · rw [qs_one]
      show 1 + 0 + (bs _).size ≤ _
      rw [bs_sz]; simp only [List.length_cons] at *; omega
    · obtain rfl := List.mem_singleton.1 ht
      refine ⟨?_, ?_, ?_, .inr (.inr (.inl rfl))⟩
      · show (0 : Nat) ≤ _; omega
      · show (bs _).size ≤ _; rw [bs_sz]; exact h
      · show (0 : Nat) ≤ _; omega
theorem asIs_Q (p : List UInt8) : qs (asIs p) ≤ 5 * p.length ∧ ∀ t ∈ asIs p, TB p.length t := by
  unfold asIs
  cases p with
  | nil => exact ⟨Nat.le_refl _, fun t h => (nomatch h)⟩
  | cons c r =>
    rw [if_neg (by simp)]
    refine ⟨?_, fun t ht => ?_⟩
    · rw [qs_one]
      show 1 + 0 + (bs _).size ≤ _
      rw [bs_sz]; simp only [List.length_cons] at *; omega
    · obtain rfl := List.mem_singleton.1 ht
      refine ⟨?_, ?_, ?_, .inr (.inr (.inl rfl))⟩
      · show (0 : Nat) ≤ _; omega
      · show (bs _).size ≤ _; rw [bs_sz]; omega
      · show (0 : Nat) ≤ _; omega
theorem raw_Q (t : Tok) (l : List UInt8) : qs (rawT t l).1 + 5 * (rawT t l).2.length ≤ 5 * l.length ∧ (rawT t l).2.length ≤ l.length ∧ ∀ x ∈ (rawT t l).1, TB l.length x := by
  unfold rawT
  split
  · have hle := endN_le t.name.data.toList l
    have h := asIs_Q (l.take (endN t.name.data.toList l))
    have hl : (l.take (endN t.name.data.toList l)).length = endN t.name.data.toList l := by rw [List.length_take]; omega
    refine ⟨?_, ?_, fun x hx => (h.2 x hx).mono (by omega)⟩
    · have := h.1
      show qs (asIs _) + 5 * (l.drop _).length ≤ _
      rw [List.length_drop]; omega
    · show (l.drop _).length ≤ _
      rw [List.length_drop]; omega
  · exact ⟨by show qs [] + 5 * l.length ≤ _; rw [qs_nil]; omega, Nat.le_refl _, fun x h => (nomatch h)⟩
theorem toks_Q : ∀ (n : Nat) (l p : List UInt8), l.length ≤ n → qs (toksR p l) ≤ 5 * (p.length + l.length) ∧ ∀ t ∈ toksR p l, TB (p.length + l.length) t := by
  intro n
  induction n with
  | zero =>
    intro l p hl
    obtain rfl : l = [] := List.eq_nil_of_length_eq_zero (by omega)
    rw [toksR_nil]
    exact chars_Q p
  | succ n ih =>
    intro l p hl
    cases l with
    | nil => rw [toksR_nil]; exact chars_Q p
    | cons c r =>
      cases hs : startsB (c :: r)
      · rw [toksR_text p c r hs]
        have := ih r (p ++ [c]) (by simp at hl; omega)
        rw [List.length_append, List.length_singleton] at this
        rw [List.length_cons, show p.length + (r.length + 1) = p.length + 1 + r.length by omega]
        exact this
      · rw [toksR_tag p _ hs]
        have hlt := tag_lt _ hs
        obtain ⟨t1, t2⟩ := tag_Q _ hs
        have hc := chars_Q p
        obtain ⟨r1, r2, r3⟩ := raw_Q (tagR (c :: r)).1 (tagR (c :: r)).2
        generalize rawT (tagR (c :: r)).1 (tagR (c :: r)).2 = R at *
        generalize tagR (c :: r) = T at *
        generalize c :: r = L at *
        obtain ⟨i1, i2⟩ := ih R.2 [] (by omega)
        rw [List.length_nil, Nat.zero_add] at i1 i2
        have hk : qs (if T.1.kind ≠ 0 then [T.1] else []) ≤ tokQ T.1 := by
          split
          · rw [qs_one]; exact Nat.le_refl _
          · exact Nat.zero_le _
        refine ⟨?_, fun t ht => ?_⟩
        · rw [qs_app, qs_app, qs_app]
          have := hc.1
          omega
        · rcases List.mem_append.1 ht with h | h
          · exact (hc.2 t h).mono (by omega)
          rcases List.mem_append.1 h with h | h
          · by_cases hk0 : T.1.kind ≠ 0
            · rw [if_pos hk0] at h
              obtain rfl := List.mem_singleton.1 h
              exact (t1 hk0).mono (by omega)
            · rw [if_neg hk0] at h
              exact (nomatch h)
          rcases List.mem_append.1 h with h | h
          · exact (r3 t h).mono (by omega)
          · exact (i2 t h).mono (by omega)
theorem toks_fit (l : List UInt8) (h : l.length ≤ 80000) : FitL (tokens l) ∧ (tokens l).length ≤ 400000 := by
  obtain ⟨h1, h2⟩ := toks_Q l.length l [] (Nat.le_refl _)
  rw [List.length_nil, Nat.zero_add] at h1 h2
  have h3 : (List.map tokQ (tokens l)).sum ≤ 400000 := by
    have : qs (toksR [] l) ≤ 5 * l.length := h1
    unfold qs at this
    show (List.map tokQ (toksR [] l)).sum ≤ _
    omega
  refine ⟨⟨h3, fun t ht => ?_⟩, by have := len_sumQ (tokens l); omega⟩
  obtain ⟨a, b, c, d⟩ := h2 t ht
  refine ⟨⟨by omega, by omega, by omega⟩, ?_⟩
  rcases d with e | e | e | e <;> rw [e] <;> decide
end M5
end Go.Proofs.YteefodibpjgicaaGreat

namespace Go.Proofs.YteefodibpjgicaaGreat
namespace M4
def attB (a : Att) : List UInt8 := 32 :: (a.name.data.toList ++ ([61, 34] ++ (M2.escape true a.value.data.toList ++ [34])))
def attsB (l : List Att) : List UInt8 := l.flatMap attB
def headB (n : ByteArray) (l : List Att) : List UInt8 := 60 :: (n.data.toList ++ (attsB l ++ [62]))
def endB (n : ByteArray) : List UInt8 := if M3.voidB n.data.toList then [] else [60, 47] ++ (n.data.toList ++ [62])
def openB (x : Nd) : List UInt8 := if x.kind = 1 then headB x.name x.attrs else []
def charsB (raw : Bool) (t : ByteArray) : List UInt8 := if raw then t.data.toList else M2.escape false t.data.toList
def commB (t : ByteArray) : List UInt8 := [60, 33, 45, 45] ++ (t.data.toList ++ [45, 45, 62])
def textB : Bool → List Nd → List UInt8
  | _, [] => []
  | raw, .mk k n a t ks :: r =>
    (if k = 1 then headB n a ++ ((if M3.voidB n.data.toList then [] else textB (M3.rawB n.data.toList) ks) ++ endB n)
     else if k = 2 then charsB raw t else if k = 3 then commB t else []) ++ textB raw r
termination_by _ l => SizeOf.sizeOf l
def oneB (raw : Bool) (x : Nd) : List UInt8 :=
  if x.kind = 1 then headB x.name x.attrs ++ ((if M3.voidB x.name.data.toList then [] else textB (M3.rawB x.name.data.toList) x.kids) ++ endB x.name)
  else if x.kind = 2 then charsB raw x.text else if x.kind = 3 then commB x.text else []
def innerB (v raw : Bool) (ks : List Nd) : List UInt8 := if v then [] else textB raw ks
theorem oneB_1 {raw : Bool} {x : Nd} (h : x.kind = 1) : oneB raw x = headB x.name x.attrs ++ (innerB (M3.voidB x.name.data.toList) (M3.rawB x.name.data.toList) x.kids ++ endB x.name) := by unfold oneB innerB; rw [if_pos h]
theorem innerB_no (raw : Bool) (ks : List Nd) : innerB false raw ks = textB raw ks := rfl
theorem innerB_yes (raw : Bool) (ks : List Nd) : innerB true raw ks = [] := rfl
theorem oneB_2 {raw : Bool} {x : Nd} (h : x.kind = 2) : oneB raw x = charsB raw x.text := by unfold oneB; rw [if_neg (by omega), if_pos h]
theorem oneB_3 {raw : Bool} {x : Nd} (h : x.kind = 3) : oneB raw x = commB x.text := by unfold oneB; rw [if_neg (by omega), if_neg (by omega), if_pos h]
theorem oneB_4 {raw : Bool} {x : Nd} (h1 : x.kind ≠ 1) (h2 : x.kind ≠ 2) (h3 : x.kind ≠ 3) : oneB raw x = [] := by unfold oneB; rw [if_neg h1, if_neg h2, if_neg h3]
theorem textB_nil (raw : Bool) : textB raw [] = [] := by rw [textB]
theorem textB_cons (raw : Bool) (x : Nd) (r : List Nd) : textB raw (x :: r) = oneB raw x ++ textB raw r := by cases x; rw [textB]; rfl
theorem textB_append (raw : Bool) (a b : List Nd) : textB raw (a ++ b) = textB raw a ++ textB raw b := by
  induction a with
  | nil => rw [textB_nil]; rfl
  | cons x r ih => rw [List.cons_append, textB_cons, textB_cons, ih, List.append_assoc]
theorem textB_snoc (raw : Bool) (a : List Nd) (x : Nd) : textB raw (a ++ [x]) = textB raw a ++ oneB raw x := by
  rw [textB_append, textB_cons, textB_nil, List.append_nil]
theorem textB_take (raw : Bool) (l : List Nd) (i : Nat) (h : i < l.length) : textB raw (l.take (i + 1)) = textB raw (l.take i) ++ oneB raw l[i] := by
  rw [List.take_succ_eq_append_getElem h, textB_snoc]
theorem textB_prefix (raw : Bool) (l : List Nd) (i : Nat) : (textB raw (l.take i)).length ≤ (textB raw l).length := by
  have : textB raw l = textB raw (l.take i) ++ textB raw (l.drop i) := by rw [← textB_append, List.take_append_drop]
  rw [this, List.length_append]; omega
theorem attsB_take (l : List Att) (i : Nat) (h : i < l.length) : attsB (l.take (i + 1)) = attsB (l.take i) ++ attB l[i] := by
  unfold attsB
  rw [List.take_succ_eq_append_getElem h, List.flatMap_append, List.flatMap_cons, List.flatMap_nil, List.append_nil]
theorem attsB_prefix (l : List Att) (i : Nat) : (attsB (l.take i)).length ≤ (attsB l).length := by
  have : attsB l = attsB (l.take i) ++ attsB (l.drop i) := by rw [attsB, attsB, attsB, ← List.flatMap_append, List.take_append_drop]
  rw [this, List.length_append]; omega
theorem attsB_len (l : List Att) (h : ∀ a ∈ l, a.name.size ≤ 268435456 ∧ a.value.size ≤ 268435456) : (attsB l).length ≤ l.length * 4294967296 := by
  induction l with
  | nil => simp [attsB]
  | cons a r ih =>
    have h1 := ih (fun b hb => h b (by simp [hb]))
    obtain ⟨h2, h3⟩ := h a (by simp)
    have h4 := M2.escape_len true a.value.data.toList
    have e : (attsB (a :: r)).length = (attB a).length + (attsB r).length := by simp [attsB]
    have e2 : (attB a).length = a.name.size + (M2.escape true a.value.data.toList).length + 4 := by
      simp only [attB, List.length_cons, List.length_append, List.length_nil]
      show a.name.size + _ + 1 = _
      omega
    have h5 : a.value.data.toList.length = a.value.size := rfl
    rw [e, List.length_cons]
    omega
theorem headB_len (n : ByteArray) (l : List Att) : (headB n l).length = n.size + (attsB l).length + 2 := by
  simp only [headB, List.length_cons, List.length_append, List.length_nil]
  show n.size + _ + 1 = _
  omega
theorem endB_len (n : ByteArray) : (endB n).length ≤ n.size + 3 := by
  unfold endB
  split
  · simp
  · simp only [List.length_cons, List.length_append, List.length_nil]; show _ + (n.size + _) ≤ _; omega
theorem commB_len (t : ByteArray) : (commB t).length = t.size + 7 := by
  simp only [commB, List.length_cons, List.length_append, List.length_nil]; show _ + (t.size + _) = _; omega
end M4
end Go.Proofs.YteefodibpjgicaaGreat

namespace Go.Proofs.YteefodibpjgicaaGreat
open Go.RowKit
structure Kw (B : Nat) (w w' : World) : Prop where
  low : Below B w w'
  kept : ∀ (k : Nat) (c : Array Value) (t : TypeId) (fr : Nat × Nat), w.heap[k]? = some (.cells c t fr) → t = 41 ∨ t = 43 ∨ t = 25 → w'.heap[k]? = some (.cells c t fr)
theorem Kw.refl (B : Nat) (w : World) : Kw B w w := ⟨Below.refl _ _, fun _ _ _ _ h _ => h⟩
theorem Kw.trans {B : Nat} {a b c : World} (h : Kw B a b) (k : Kw B b c) : Kw B a c := ⟨h.low.trans k.low, fun i cs t fr h1 h2 => k.kept i cs t fr (h.kept i cs t fr h1 h2) h2⟩
theorem Kw.of_below {B : Nat} {a b : World} (h : Below a.heap.size a b) (hB : B ≤ a.heap.size) : Kw B a b :=
  ⟨h.mono hB, fun i _ _ _ h1 _ => (h.block i (Array.getElem?_eq_some_iff.1 h1).1).trans h1⟩
theorem Kw.box {B : Nat} {a b : World} (h : Kw B a b) {g : Nat} {t : TypeId} {cs : List Value} (hb : Box a g t cs) (ht : t = 41 ∨ t = 43 ∨ t = 25) : Box b g t cs := h.kept _ _ _ _ hb ht
def PutPost (B : Nat) (P : List UInt8 → World → Prop) (acc : List UInt8) (w : World) (e : Ending) (w' : World) : Prop := e = .returned (.tuple #[]) ∧ P acc w' ∧ Kw B w w'
structure Puts (B F g : Nat) (P : List UInt8 → World → Prop) : Prop where
  enter : ∀ (args : Array Value) (w : World), (callFunc F args).run Tryz.prog w = .ok (.enter F args) w
  base : ∀ acc w, P acc w → B ≤ w.heap.size
  stab : ∀ acc w w', P acc w → Below w.heap.size w w' → P acc w'
  call : ∀ acc (s : ByteArray) w, P acc w → acc.length + s.size ≤ 70368744177664 → Calls Tryz.prog F #[.string s, .pointer (some ⟨g, 0, none⟩)] w (PutPost B P (acc ++ s.data.toList) w)
set_option maxHeartbeats 2000000 in
set_option maxRecDepth 100000 in
theorem writeEnd {B F g : Nat} {P : List UInt8 → World → Prop} (hp : Puts B F g P) (x : Nd) (va vk : Value) (acc : List UInt8) (w : World) (hva : ∃ a n c, va = .slice a n c) (hvk : ∃ a n c, vk = .slice a n c) (hP : P acc w) (hl : acc.length + (M4.endB x.name).length ≤ 70368744177664) :
    Calls Tryz.prog 118 #[x.val va vk, .func (.func F) #[] #[.pointer (some ⟨g, 0, none⟩)]] w (PutPost B P (acc ++ M4.endB x.name) w) := by
  obtain ⟨a1, n1, c1, rfl⟩ := hva
  obtain ⟨a2, n2, c2, rfl⟩ := hvk
  have hE := hp.enter
  have hb0 : Kw B w (w.alloc (.cells #[.int .i64 x.kind, .string x.name, .slice a1 n1 c1, .string x.text, .slice a2 n2 c2] 41)) := Kw.of_below ((Below.refl _ _).alloc (Nat.le_refl _) _) (hp.base _ _ hP)
  have hP0 : P acc (w.alloc (.cells #[.int .i64 x.kind, .string x.name, .slice a1 n1 c1, .string x.text, .slice a2 n2 c2] 41)) := hp.stab _ _ _ hP ((Below.refl _ _).alloc (Nat.le_refl _) _)
  have hbx := Box.new w 41 [.int .i64 x.kind, .string x.name, .slice a1 n1 c1, .string x.text, .slice a2 n2 c2]
  have hv : Hid (M4.endB x.name = if M3.voidB x.name.data.toList then [] else [60, 47] ++ (x.name.data.toList ++ [62])) := rfl
  cases hvd : M3.voidB x.name.data.toList
  · rw [hvd, if_neg (by simp)] at hv
    rw [hv.out] at hl ⊢
    simp only [List.length_append, List.length_cons, List.length_nil] at hl
    have hl : acc.length + (0 + 1 + 1 + (x.name.size + (0 + 1))) ≤ 70368744177664 := hl
    clear hv
    replace hb0 := Lib.hid hb0
    go_enter Tryz.func118, Tryz.ntmps118
    go_wp2_with (fail)
    refine (domVoid _ _).mono ?_
    rintro e w1 ⟨rfl, rfl⟩
    rw [hvd]
    replace hvd := Lib.hid hvd
    go_wp2_with (fail)
    refine (hp.call acc ⟨#[60, 47]⟩ _ hP0 (by show acc.length + 2 ≤ _; omega)).mono ?_
    rintro e w1 ⟨rfl, hP1, hk1⟩
    have hb1 := hk1.box hbx (.inl rfl)
    have c1 := hb1.cell (i := 1) rfl
    go_wp2_with (fail)
    refine (hp.call _ x.name _ hP1 (by simp; omega)).mono ?_
    rintro e w2 ⟨rfl, hP2, hk2⟩
    clear c1
    go_wp2_with (fail)
    refine (hp.call _ ⟨#[62]⟩ _ hP2 (by simp; show acc.length + (x.name.size + 1 + 1) + 1 ≤ _; omega)).mono ?_
    rintro e w3 ⟨rfl, hP3, hk3⟩
    have hP4 := Lib.hid hP3
    go_wp2_with (fail)
    go_end0
    exact ⟨rfl, by simpa using hP4.out, ((hb0.out.trans hk1).trans hk2).trans hk3⟩
  · rw [hvd, if_pos rfl] at hv
    rw [hv.out, List.append_nil]
    clear hv hl
    replace hb0 := Lib.hid hb0
    replace hP0 := Lib.hid hP0
    go_enter Tryz.func118, Tryz.ntmps118
    go_wp2_with (fail)
    refine (domVoid _ _).mono ?_
    rintro e w1 ⟨rfl, rfl⟩
    rw [hvd]
    go_wp2_with (fail)
    go_end0
    exact ⟨rfl, hP0.out, hb0.out⟩
set_option maxHeartbeats 2000000 in
set_option maxRecDepth 100000 in
theorem writeText {B F g : Nat} {P : List UInt8 → World → Prop} (hp : Puts B F g P) (s : ByteArray) (raw : Bool) (acc : List UInt8) (w : World) (hP : P acc w) (hs : s.size ≤ 1073741824) (hl : acc.length + (M4.charsB raw s).length ≤ 70368744177664) :
    Calls Tryz.prog 109 #[.string s, .bool raw, .func (.func F) #[] #[.pointer (some ⟨g, 0, none⟩)]] w (PutPost B P (acc ++ M4.charsB raw s) w) := by
  have hE := hp.enter
  cases raw
  · have hl : acc.length + (⟨(M2.escape false s.data.toList).toArray⟩ : ByteArray).size ≤ 70368744177664 := hl
    have hQ := Lib.hid (fun w1 (hb : Below w.heap.size w w1) => hp.call acc ⟨(M2.escape false s.data.toList).toArray⟩ w1 (hp.stab _ _ _ hP hb) hl)
    have hB := hp.base _ _ hP
    go_enter Tryz.func109, Tryz.ntmps109
    go_wp2_with (fail)
    refine (refsEscape _ _ _ hs).mono ?_
    rintro e w1 ⟨rfl, hb1⟩
    have hk1 := Lib.hid (Kw.of_below hb1 hB)
    go_wp2_with (fail)
    refine (hQ.out _ hb1).mono ?_
    rintro e w2 ⟨rfl, hP2, hk2⟩
    have hP3 := Lib.hid hP2
    go_wp2_with (fail)
    go_end0
    exact ⟨rfl, hP3.out, hk1.out.trans hk2⟩
  · have hQ := Lib.hid (hp.call acc s w hP hl)
    go_enter Tryz.func109, Tryz.ntmps109
    go_wp2_with (fail)
    refine hQ.out.mono ?_
    rintro e w2 ⟨rfl, hP2, hk2⟩
    have hP3 := Lib.hid hP2
    go_wp2_with (fail)
    go_end0
    exact ⟨rfl, hP3.out, hk2⟩
theorem wr_meas {n k : Nat} (h : k < n) : n - (intOf (.int .i64 ((k : Int) + 1))).toNat < n - (intOf (.int .i64 (k : Int))).toNat := by
  simp [intOf]; omega
theorem attB_len (a : Att) : (M4.attB a).length = a.name.size + (M2.escape true a.value.data.toList).length + 4 := by
  simp only [M4.attB, List.length_cons, List.length_append, List.length_nil]
  show a.name.size + _ + 1 = _
  omega
set_option maxHeartbeats 4000000 in
set_option maxRecDepth 100000 in
theorem writeBegin {B F g : Nat} {P : List UInt8 → World → Prop} (hp : Puts B F g P) (S : Nat → Prop) (x : Nd) (va vk : Value) (acc : List UInt8) (w w0 : World) (hS : ∀ b, S b → b < B) (hx : RepV S w0 x va vk) (hw : Below B w0 w) (hf : Fit1 x) (hP : P acc w) (hl : acc.length + (M4.headB x.name x.attrs).length ≤ 70368744177664) :
    Calls Tryz.prog 115 #[x.val va vk, .func (.func F) #[] #[.pointer (some ⟨g, 0, none⟩)]] w (PutPost B P (acc ++ M4.headB x.name x.attrs) w) := by
  obtain ⟨a1, e1, rfl⟩ := hx.at_.slice
  obtain ⟨a2, e2, rfl⟩ := hx.kids.slice
  obtain ⟨_, hlc, hcm⟩ := hx.at_.len
  have hat := Lib.hid (fun (W : World) (hW : Below B w W) => hx.at_.keep (w' := W) (fun b h => (hw.trans hW).block b (hS b h)))
  rw [M4.headB_len] at hl
  cases x with | mk k n ats t ks =>
  simp only [Nd.kind, Nd.name, Nd.text, Nd.attrs, Nd.kids, Nd.val] at *
  have hB := hp.base _ _ hP
  have hE := hp.enter
  have hb0 : Kw B w (w.alloc (.cells #[.int .i64 k, .string n, .slice a1 ats.length e1, .string t, .slice a2 ks.length e2] 41)) := Kw.of_below ((Below.refl _ _).alloc (Nat.le_refl _) _) hB
  have hP0 : P acc (w.alloc (.cells #[.int .i64 k, .string n, .slice a1 ats.length e1, .string t, .slice a2 ks.length e2] 41)) := hp.stab _ _ _ hP ((Below.refl _ _).alloc (Nat.le_refl _) _)
  have hbx := Box.new w 41 [.int .i64 k, .string n, .slice a1 ats.length e1, .string t, .slice a2 ks.length e2]
  have hfa := Lib.hid hf.2.2.1
  clear hx hw hf
  replace hb0 := Lib.hid hb0
  go_enter Tryz.func115, Tryz.ntmps115
  go_wp2_with (fail)
  refine (hp.call acc ⟨#[60]⟩ _ hP0 (by show acc.length + 1 ≤ _; omega)).mono ?_
  rintro e w1 ⟨rfl, hP1, hk1⟩
  have hb1 := hk1.box hbx (.inl rfl)
  have c1 := hb1.cell (i := 1) rfl
  clear hbx
  go_wp2_with (fail)
  refine (hp.call _ n _ hP1 (by simp; omega)).mono ?_
  rintro e w2 ⟨rfl, hP2, hk2⟩
  have hb2 := hk2.box hb1 (.inl rfl)
  have c2 := hb2.cell (i := 2) rfl
  have hkn := Lib.hid ((hb0.out.trans hk1).trans hk2)
  clear hb1 c1 hk1 hk2 hP1 hP0
  have hacc : Hid (acc ++ (⟨#[60]⟩ : ByteArray).data.toList ++ n.data.toList = acc ++ 60 :: n.data.toList ++ M4.attsB (ats.take 0)) := by show _ = _; simp [M4.attsB]
  replace hP2 : P (acc ++ 60 :: n.data.toList ++ M4.attsB (ats.take 0)) w2 := by rw [← hacc.out]; exact hP2
  clear hacc
  generalize hA0 : acc ++ 60 :: n.data.toList = A0 at *
  have hA0l : A0.length = acc.length + 1 + n.size := by rw [← hA0]; simp; show _ + (n.size + 1) = _; omega
  replace hA0 := Lib.hid hA0
  go_wp2_with (fail)
  go_loopw [5, 15] (fun _ u15 wr => ∃ i : Nat, i ≤ ats.length ∧ u15 = .int .i64 (i : Int) ∧ P (A0 ++ M4.attsB (ats.take i)) wr ∧ Kw B w wr) (fun _ u15 _ => ats.length - (intOf u15).toNat)
  case atStart => exact ⟨0, by omega, rfl, hP2, hkn.out⟩
  case round =>
    obtain ⟨i, hi, rfl, hP3, hk3⟩ := hrel
    by_cases hlt : i < ats.length
    · obtain ⟨b, off, rfl, hSb, q0, q1⟩ := (hat.out wr hk3.low).atA i hlt
      have hbl := hS b hSb
      have hz3 := hp.base _ _ hP3
      obtain ⟨hfn, hfv⟩ := hfa.out _ (List.getElem_mem hlt)
      have htk := M4.attsB_take ats i hlt
      have hpre := M4.attsB_prefix ats (i + 1)
      rw [htk, List.length_append, attB_len] at hpre
      have hab : Hid (A0 ++ M4.attsB (ats.take i) ++ [32] ++ ats[i].name.data.toList ++ [61, 34] ++ M2.escape true ats[i].value.data.toList ++ [34] = A0 ++ M4.attsB (ats.take (i + 1))) := by
        show _ = _
        rw [htk, M4.attB]; simp
      generalize hA2 : A0 ++ M4.attsB (ats.take (i + 1)) = A2' at *
      replace hA2 := Lib.hid hA2
      replace htk := Lib.hid htk
      generalize ats[i].name = nm at *
      generalize ats[i].value = vl at *
      have hlen3 : (A0 ++ M4.attsB (ats.take i)).length + (nm.size + (M2.escape true vl.data.toList).length + 4) ≤ 70368744177664 - 1 := by rw [List.length_append]; omega
      generalize A0 ++ M4.attsB (ats.take i) = A1 at *
      clear hpre htk
      have hP4 : P A1 (wr.alloc (.cells #[.string nm, .string vl] 43)) := hp.stab _ _ _ hP3 ((Below.refl _ _).alloc (Nat.le_refl _) _)
      have hk4 : Kw B w (wr.alloc (.cells #[.string nm, .string vl] 43)) := hk3.trans (Kw.of_below ((Below.refl _ _).alloc (Nat.le_refl _) _) hz3)
      have bx := Box.new wr 43 [.string nm, .string vl]
      replace hk4 := Lib.hid hk4
      clear hP3 hk3
      go_wp2_with (fail)
      refine (hp.call A1 ⟨#[32]⟩ _ hP4 (by show A1.length + 1 ≤ _; omega)).mono ?_
      rintro e w3 ⟨rfl, hP5, hk5⟩
      have bx1 := hk5.box bx (.inr (.inl rfl))
      have d0 := bx1.cell (i := 0) rfl
      clear bx q0 q1
      go_wp2_with (fail)
      refine (hp.call _ nm _ hP5 (by simp; omega)).mono ?_
      rintro e w4 ⟨rfl, hP6, hk6⟩
      have bx2 := hk6.box bx1 (.inr (.inl rfl))
      have d1 := bx2.cell (i := 1) rfl
      have hl6 : (A1 ++ (⟨#[32]⟩ : ByteArray).data.toList ++ nm.data.toList).length = A1.length + 1 + nm.size := by simp; show A1.length + (nm.size + 1) = _; omega
      have hk6 := Lib.hid ((hk4.out.trans hk5).trans hk6)
      clear bx1 d0 hP5 hP4 hk4 hk5
      go_wp2_with (fail)
      refine (hp.call _ ⟨#[61, 34]⟩ _ hP6 (by rw [hl6]; show _ + 2 ≤ _; omega)).mono ?_
      rintro e w5 ⟨rfl, hP7, hk7⟩
      have bx3 := hk7.box bx2 (.inr (.inl rfl))
      have d1 := bx3.cell (i := 1) rfl
      clear bx2 hP6
      go_wp2_with (fail)
      refine (refsEscape vl true _ (by omega)).mono ?_
      rintro e w6 ⟨rfl, hb8⟩
      have hk8 := Lib.hid ((hk6.out.trans hk7).trans (Kw.of_below hb8 (hp.base _ _ hP7)))
      have hP8 := hp.stab _ _ _ hP7 hb8
      clear hP7 bx3 d1 hk7
      go_wp2_with (fail)
      refine (hp.call _ ⟨(M2.escape true vl.data.toList).toArray⟩ _ hP8 (by rw [List.length_append, hl6]; show _ + 2 + (M2.escape true vl.data.toList).length ≤ _; omega)).mono ?_
      rintro e w7 ⟨rfl, hP9, hk9⟩
      go_wp2_with (fail)
      refine (hp.call _ ⟨#[34]⟩ _ hP9 (by rw [List.length_append, List.length_append, hl6]; show _ + 2 + (M2.escape true vl.data.toList).length + 1 ≤ _; omega)).mono ?_
      rintro e w8 ⟨rfl, hP10, hk10⟩
      have hP11 := Lib.hid (show P A2' w8 from hab.out ▸ hP10)
      clear hP10 hP9 hP8
      go_wp2_with (fail)
      go_roundw
      case rel => exact ⟨i + 1, by omega, by go_num, by rw [hA2.out]; exact hP11.out, (hk8.out.trans hk9).trans hk10⟩
      case measure => exact wr_meas hlt
    · obtain rfl : i = ats.length := by omega
      rw [List.take_length] at hP3
      have hll : (A0 ++ M4.attsB ats).length + 1 ≤ 70368744177664 := by rw [List.length_append]; omega
      have hab : Hid (A0 ++ M4.attsB ats ++ [62] = acc ++ M4.headB n ats) := by show _ = _; rw [← hA0.out, M4.headB]; simp
      replace hk3 := Lib.hid hk3
      go_wp2_with (fail)
      refine (hp.call _ ⟨#[62]⟩ _ hP3 hll).mono ?_
      rintro e w3 ⟨rfl, hP5, hk5⟩
      have hP6 := Lib.hid (hab.out ▸ hP5 : P (acc ++ M4.headB n ats) w3)
      go_wp2_with (fail)
      go_end0
      exact ⟨rfl, hP6.out, hk3.out.trans hk5⟩
end Go.Proofs.YteefodibpjgicaaGreat

namespace Go.Proofs.YteefodibpjgicaaGreat
open Go.RowKit
def askR (q : UInt8 → Bool) (r : Nat) : Bool := q (if r < 128 then r.toUInt8 else 128)
def Flat (q : UInt8 → Bool) : Prop := ∀ c : UInt8, 128 ≤ c.toNat → q c = q 128
theorem flat_of {q : UInt8 → Bool} (h : ∀ n : Fin 256, 128 ≤ n.1 → q n.1.toUInt8 = q 128) : Flat q := by
  intro c hc
  have := h ⟨c.toNat, c.toNat_lt⟩ hc
  rwa [show c.toNat.toUInt8 = c by simp] at this
theorem dec_low (l : List UInt8) (c : UInt8) (r : List UInt8) (hl : l = c :: r) (h : c.toNat < 128) : M1.dec l = (c.toNat, 1) := by
  subst hl
  unfold M1.dec
  rw [if_pos (by simpa using h)]
  rfl
theorem cont_high (l : List UInt8) (k : Nat) (h : M1.cont l k = true) : ∃ h' : k < l.length, 128 ≤ l[k].toNat := by
  unfold M1.cont at h
  rw [Bool.and_eq_true, decide_eq_true_iff] at h
  obtain ⟨h1, h2⟩ := h
  refine ⟨h1, ?_⟩
  rw [List.getD_eq_getElem?_getD, List.getElem?_eq_getElem h1, Option.getD_some] at h2
  have := beq_iff_eq.1 h2
  omega
theorem dec_high (l : List UInt8) (c : UInt8) (r : List UInt8) (hl : l = c :: r) (h : 128 ≤ c.toNat) :
    128 ≤ (M1.dec l).1 ∧ ∀ k, k < (M1.dec l).2 → ∀ hk : k < l.length, 128 ≤ l[k].toNat := by
  have h0 : ∀ hk : 0 < l.length, 128 ≤ l[0].toNat := by subst hl; intro _; exact h
  have one : ∀ k, k < 1 → ∀ hk : k < l.length, 128 ≤ l[k].toNat := by
    intro k hk hl'
    obtain rfl : k = 0 := by omega
    exact h0 hl'
  unfold M1.dec
  rw [if_neg (by subst hl; simpa using h)]
  split
  · rename_i h1
    rw [Bool.and_eq_true] at h1
    split
    · rename_i h2
      refine ⟨h2, ?_⟩
      intro k hk hl'
      match k, hk with
      | 0, _ => exact h0 hl'
      | 1, _ => exact (cont_high l 1 h1.2).2
    · exact ⟨by decide, one⟩
  · split
    · rename_i h1
      rw [Bool.and_eq_true, Bool.and_eq_true] at h1
      split
      · rename_i h2
        rw [Bool.and_eq_true] at h2
        refine ⟨by have := of_decide_eq_true h2.1; show 128 ≤ _; omega, ?_⟩
        intro k hk hl'
        match k, hk with
        | 0, _ => exact h0 hl'
        | 1, _ => exact (cont_high l 1 h1.1.2).2
        | 2, _ => exact (cont_high l 2 h1.2).2
      · exact ⟨by decide, one⟩
    · split
      · rename_i h1
        rw [Bool.and_eq_true, Bool.and_eq_true, Bool.and_eq_true] at h1
        split
        · rename_i h2
          rw [Bool.and_eq_true] at h2
          refine ⟨by have := of_decide_eq_true h2.1; show 128 ≤ _; omega, ?_⟩
          intro k hk hl'
          match k, hk with
          | 0, _ => exact h0 hl'
          | 1, _ => exact (cont_high l 1 h1.1.1.2).2
          | 2, _ => exact (cont_high l 2 h1.1.2).2
          | 3, _ => exact (cont_high l 3 h1.2).2
        · exact ⟨by decide, one⟩
      · exact ⟨by decide, one⟩
theorem ask_low (q : UInt8 → Bool) (c : UInt8) (h : c.toNat < 128) : askR q c.toNat = q c := by
  unfold askR
  rw [if_pos h]
  congr 1
  simp
theorem spanN_all (q : UInt8 → Bool) (n : Nat) : ∀ (l : List UInt8), n ≤ l.length → (∀ k, k < n → ∀ hk : k < l.length, q l[k] = true) → M5.spanN q l = n + M5.spanN q (l.drop n) := by
  induction n with
  | zero => intro l _ _; simp
  | succ n ih =>
    intro l h1 h2
    cases l with
    | nil => simp at h1
    | cons c r =>
      have h0 := h2 0 (by omega) (by simp)
      have e : M5.spanN q (c :: r) = M5.spanN q r + 1 := by
        unfold M5.spanN
        rw [List.takeWhile_cons, if_pos (by simpa using h0)]
        rfl
      rw [e, List.drop_succ_cons, ih r (by simpa using h1) (fun k hk hl => by
        have := h2 (k + 1) (by omega) (by simpa using hl)
        simpa using this)]
      omega
theorem spanN_no (q : UInt8 → Bool) (c : UInt8) (r : List UInt8) (h : q c = false) : M5.spanN q (c :: r) = 0 := by
  unfold M5.spanN
  rw [List.takeWhile_cons, h]
  rfl
theorem rune_step {q : UInt8 → Bool} (hq : Flat q) (l : List UInt8) (hl : l ≠ []) :
    (askR q (M1.dec l).1 = true → M5.spanN q l = (M1.dec l).2 + M5.spanN q (l.drop (M1.dec l).2)) ∧ (askR q (M1.dec l).1 = false → M5.spanN q l = 0) := by
  obtain ⟨c, r, rfl⟩ := List.exists_cons_of_ne_nil hl
  have hle := M1.dec_le (c :: r) hl
  by_cases h : c.toNat < 128
  · have e := dec_low _ c r rfl h
    rw [e]
    rw [ask_low q c h]
    constructor
    · intro hc
      rw [spanN_all q 1 (c :: r) (by simp) (fun k hk _ => by obtain rfl : k = 0 := by omega
                                                             exact hc)]
    · intro hc
      exact spanN_no q c r hc
  · obtain ⟨h1, h2⟩ := dec_high (c :: r) c r rfl (by omega)
    have ha : askR q (M1.dec (c :: r)).1 = q 128 := by
      unfold askR
      rw [if_neg (by omega)]
    rw [ha]
    constructor
    · intro hc
      exact spanN_all q _ _ hle (fun k hk hl' => by rw [hq _ (h2 k hk hl')]; exact hc)
    · intro hc
      exact spanN_no q c r (by rw [hq c (by omega)]; exact hc)
theorem u8_low (r : Nat) (h : r < 128) : r.toUInt8.toNat = r := by
  rw [M1.toNat_u8 r (by omega)]
theorem askR_eq (d : UInt8) (hd : d.toNat < 128) (r : Nat) : askR (· == d) r = ((r : Int) == (d.toNat : Int)) := by
  unfold askR
  by_cases h : r < 128
  · rw [if_pos h]
    show (r.toUInt8 == d) = _
    rw [eqI, u8_low r h]
  · rw [if_neg h]
    have e1 : ((128 : UInt8) == d) = false := by
      rw [eqI]
      have : (128 : UInt8).toNat = 128 := rfl
      rw [this, beq_eq_false_iff_ne]
      omega
    show ((128 : UInt8) == d) = _
    rw [e1]
    symm
    rw [beq_eq_false_iff_ne]
    omega
theorem askR_letter (r : Nat) : askR M5.letterB r = (decide (65 ≤ r ∧ r ≤ 90) || decide (97 ≤ r ∧ r ≤ 122)) := by
  unfold askR
  by_cases h : r < 128
  · rw [if_pos h]
    unfold M5.letterB
    rw [u8_low r h]
  · rw [if_neg h]
    have : M5.letterB 128 = false := by decide
    rw [this]
    symm
    simp
    omega
theorem askR_blank (r : Nat) : askR M5.blankB r = (((r : Int) == 9) || ((r : Int) == 10) || ((r : Int) == 12) || ((r : Int) == 32)) := by
  have h9 := askR_eq 9 (by decide) r
  have h10 := askR_eq 10 (by decide) r
  have h12 := askR_eq 12 (by decide) r
  have h32 := askR_eq 32 (by decide) r
  show (((askR (· == 9) r || askR (· == 10) r) || askR (· == 12) r) || askR (· == 32) r : Bool) = _
  rw [h9, h10, h12, h32]
  rfl
set_option maxHeartbeats 1000000 in
theorem tokLetter (r : Nat) (w : World) : Calls Tryz.prog 162 #[.int .i32 (r : Int)] w (BoolPost (askR M5.letterB r) w) := by
  rw [askR_letter]
  by_cases h1 : 65 ≤ r
  · by_cases h2 : r ≤ 90
    · have hr : (decide (65 ≤ r ∧ r ≤ 90) || decide (97 ≤ r ∧ r ≤ 122)) = true := by simp [h1, h2]
      rw [hr]
      clear hr
      go_enter Tryz.func162, Tryz.ntmps162
      go_wp2
      go_ret
      exact ⟨(show Ending.returned (Value.bool _) = Ending.returned (Value.bool _) from congrArg (fun b => Ending.returned (Value.bool b)) (by first | rfl | (rw [Bool.eq_iff_iff]; simp; omega))), rfl⟩
    · by_cases h3 : 97 ≤ r
      · by_cases h4 : r ≤ 122
        · have hr : (decide (65 ≤ r ∧ r ≤ 90) || decide (97 ≤ r ∧ r ≤ 122)) = true := by simp [h3, h4]
          rw [hr]
          clear hr
          go_enter Tryz.func162, Tryz.ntmps162
          go_wp2
          go_ret
          exact ⟨(show Ending.returned (Value.bool _) = Ending.returned (Value.bool _) from congrArg (fun b => Ending.returned (Value.bool b)) (by first | rfl | (rw [Bool.eq_iff_iff]; simp; omega))), rfl⟩
        · have hr : (decide (65 ≤ r ∧ r ≤ 90) || decide (97 ≤ r ∧ r ≤ 122)) = false := by simp [h2, h4]
          rw [hr]
          clear hr
          go_enter Tryz.func162, Tryz.ntmps162
          go_wp2
          go_ret
          exact ⟨(show Ending.returned (Value.bool _) = Ending.returned (Value.bool _) from congrArg (fun b => Ending.returned (Value.bool b)) (by first | rfl | (rw [Bool.eq_iff_iff]; simp; omega))), rfl⟩
      · have hr : (decide (65 ≤ r ∧ r ≤ 90) || decide (97 ≤ r ∧ r ≤ 122)) = false := by simp [h2, h3]
        rw [hr]
        clear hr
        go_enter Tryz.func162, Tryz.ntmps162
        go_wp2
        go_ret
        exact ⟨(show Ending.returned (Value.bool _) = Ending.returned (Value.bool _) from congrArg (fun b => Ending.returned (Value.bool b)) (by first | rfl | (rw [Bool.eq_iff_iff]; simp; omega))), rfl⟩
  · have hr : (decide (65 ≤ r ∧ r ≤ 90) || decide (97 ≤ r ∧ r ≤ 122)) = false := by simp; omega
    have h3 : ¬ 97 ≤ r := by omega
    rw [hr]
    clear hr
    go_enter Tryz.func162, Tryz.ntmps162
    go_wp2
    go_ret
    exact ⟨(show Ending.returned (Value.bool _) = Ending.returned (Value.bool _) from congrArg (fun b => Ending.returned (Value.bool b)) (by first | rfl | (rw [Bool.eq_iff_iff]; simp; omega))), rfl⟩
set_option maxHeartbeats 1000000 in
theorem tokBlank (r : Nat) (w : World) : Calls Tryz.prog 183 #[.int .i32 (r : Int)] w (BoolPost (askR M5.blankB r) w) := by
  rw [askR_blank]
  generalize (r : Int) = n at *
  cases h9 : (n == 9)
  · cases h10 : (n == 10)
    · cases h12 : (n == 12)
      · go_enter Tryz.func183, Tryz.ntmps183
        go_wp2
        go_ret
        exact ⟨rfl, rfl⟩
      · go_enter Tryz.func183, Tryz.ntmps183
        go_wp2
        go_ret
        exact ⟨rfl, rfl⟩
    · go_enter Tryz.func183, Tryz.ntmps183
      go_wp2
      go_ret
      exact ⟨rfl, rfl⟩
  · go_enter Tryz.func183, Tryz.ntmps183
    go_wp2
    go_ret
    exact ⟨rfl, rfl⟩
def betwB (c : UInt8) : Bool := M5.blankB c || c == 47 || c == 61
set_option maxHeartbeats 1000000 in
theorem tokBetween (r : Nat) (w : World) : Calls Tryz.prog 172 #[.int .i32 (r : Int)] w (BoolPost (askR betwB r) w) := by
  have hB := Lib.hid (fun w => tokBlank r w)
  have e : askR betwB r = (askR M5.blankB r || ((r : Int) == 47) || ((r : Int) == 61)) := by
    show ((askR M5.blankB r || askR (· == 47) r) || askR (· == 61) r : Bool) = _
    rw [askR_eq 47 (by decide) r, askR_eq 61 (by decide) r]
    rfl
  rw [e]
  clear e
  generalize askR M5.blankB r = b at *
  generalize (r : Int) = n at *
  cases b
  · cases h1 : (n == 47)
    · go_enter Tryz.func172, Tryz.ntmps172
      go_wp2_with (go_at_call 183; refine (hB.out _).mono ?_; rintro e1 w1 ⟨rfl, rfl⟩)
      go_ret
      exact ⟨rfl, rfl⟩
    · go_enter Tryz.func172, Tryz.ntmps172
      go_wp2_with (go_at_call 183; refine (hB.out _).mono ?_; rintro e1 w1 ⟨rfl, rfl⟩)
      go_ret
      exact ⟨rfl, rfl⟩
  · go_enter Tryz.func172, Tryz.ntmps172
    go_wp2_with (go_at_call 183; refine (hB.out _).mono ?_; rintro e1 w1 ⟨rfl, rfl⟩)
    go_ret
    exact ⟨rfl, rfl⟩
set_option maxHeartbeats 1000000 in
theorem tokLeaves (r : Nat) (w : World) : Calls Tryz.prog 180 #[.int .i32 (r : Int)] w (BoolPost (askR edgeB r) w) := by
  have hB := Lib.hid (fun w => tokBlank r w)
  have e : askR edgeB r = (askR M5.blankB r || ((r : Int) == 47) || ((r : Int) == 62)) := by
    show ((askR M5.blankB r || askR (· == 47) r) || askR (· == 62) r : Bool) = _
    rw [askR_eq 47 (by decide) r, askR_eq 62 (by decide) r]
    rfl
  rw [e]
  clear e
  generalize askR M5.blankB r = b at *
  generalize (r : Int) = n at *
  cases b
  · cases h1 : (n == 47)
    · go_enter Tryz.func180, Tryz.ntmps180
      go_wp2_with (go_at_call 183; refine (hB.out _).mono ?_; rintro e1 w1 ⟨rfl, rfl⟩)
      go_ret
      exact ⟨rfl, rfl⟩
    · go_enter Tryz.func180, Tryz.ntmps180
      go_wp2_with (go_at_call 183; refine (hB.out _).mono ?_; rintro e1 w1 ⟨rfl, rfl⟩)
      go_ret
      exact ⟨rfl, rfl⟩
  · go_enter Tryz.func180, Tryz.ntmps180
    go_wp2_with (go_at_call 183; refine (hB.out _).mono ?_; rintro e1 w1 ⟨rfl, rfl⟩)
    go_ret
    exact ⟨rfl, rfl⟩
end Go.Proofs.YteefodibpjgicaaGreat

namespace Go.Proofs.YteefodibpjgicaaGreat
open Go.RowKit
structure Asks (F : Nat) (caps : Array Value) (q : UInt8 → Bool) (w0 : World) : Prop where
  enter : ∀ (args : Array Value) (w : World), (callFunc F args).run Tryz.prog w = .ok (.enter F args) w
  flat : Flat q
  call : ∀ (r : Nat) (w : World), r < 1114112 → Below w0.heap.size w0 w → Calls Tryz.prog F (#[.int .i32 (r : Int)] ++ caps) w (BoolPost (askR q r) w)
def TakePost (q : UInt8 → Bool) (l : List UInt8) (w : World) (e : Ending) (w' : World) : Prop :=
  e = .returned (.tuple #[.string (M5.bs (l.takeWhile q)), .string (M5.bs (l.dropWhile q))]) ∧ Below w.heap.size w w'
theorem take_part (s : ByteArray) (q : UInt8 → Bool) (k : Nat) (h : k = M5.spanN q s.data.toList) : s.extract 0 k = M5.bs (s.data.toList.takeWhile q) := by
  rw [bs_cut, List.drop_zero, Nat.sub_zero, h, M5.span_take]
theorem drop_part (s : ByteArray) (q : UInt8 → Bool) (k : Nat) (h : k = M5.spanN q s.data.toList) : s.extract k s.size = M5.bs (s.data.toList.dropWhile q) := by
  rw [bs_cut, List.take_of_length_le (by rw [List.length_drop]; exact Nat.le_refl _), h, M5.span_drop]
set_option maxHeartbeats 2000000 in
set_option maxRecDepth 100000 in
theorem tokTake {F : Nat} {caps : Array Value} {q : UInt8 → Bool} (s : ByteArray) (w : World) (hA : Asks F caps q w) (hs : s.size ≤ 1073741824) :
    Calls Tryz.prog 171 #[.string s, .func (.func F) #[] caps] w (TakePost q s.data.toList w) := by
  have hE := hA.enter
  obtain ⟨N, hN⟩ : ∃ N, Hid (N = M5.spanN q s.data.toList) := ⟨_, rfl⟩
  have hNs : N ≤ s.size := by rw [hN.out]; exact M5.spanN_le _ _
  obtain ⟨wo, rfl⟩ : ∃ wo : World, wo = w := ⟨_, rfl⟩
  go_enter Tryz.func171, Tryz.ntmps171
  go_wp2_with fail
  go_loopw [] (fun wr => ∃ pos : Nat, pos ≤ s.size ∧ wr.heap[wo.heap.size]? = some (.stringIter s pos) ∧ Below wo.heap.size wo wr ∧ Hid (N = pos + M5.spanN q (s.data.toList.drop pos))) (fun wr => s.size - wr.iterPos wo.heap.size)
  case atStart => exact ⟨0, by omega, World.iter_heap wo s 0, (Below.refl _ wo).alloc (Nat.le_refl _) _, by show _ = _; rw [hN.out]; simp⟩
  case round =>
    obtain ⟨pos, hpl, hit, hbw, hv⟩ := hrel
    have hsz : wo.heap.size < wr.heap.size := (Array.getElem?_eq_some_iff.1 hit).1
    by_cases hp : pos < s.size
    · have hp' : pos < s.data.toList.length := hp
      have hne := drop_ne hp'
      have hnx := next_dec (P := Tryz.prog) wr wo.heap.size s pos hit hp
      have hst0 := rune_step hA.flat _ hne
      have hw1 := M1.dec_pos _ hne
      have hw2 := M1.dec_le _ hne
      have hlt := M1.dec_lt (s.data.toList.drop pos)
      rw [List.drop_drop] at hst0
      rw [List.length_drop, show s.data.toList.length = s.size from rfl] at hw2
      have hbw1 := Lib.below_iterAt hbw (Nat.le_refl _) s (pos + (M1.dec (s.data.toList.drop pos)).2)
      have hit1 := Lib.iterAt_heap wr wo.heap.size s pos (pos + (M1.dec (s.data.toList.drop pos)).2) hit
      have hcall := Lib.hid (hA.call (M1.dec (s.data.toList.drop pos)).1 _ hlt hbw1)
      generalize (M1.dec (s.data.toList.drop pos)).1 = r at *
      generalize (M1.dec (s.data.toList.drop pos)).2 = wd at *
      generalize wr.iterAt wo.heap.size s (pos + wd) = w1 at *
      have hst := Lib.hid hst0
      clear hst0 hne hbw
      cases hb : askR q r
      · have hk : pos = M5.spanN q s.data.toList := by rw [← hN.out, hv.out, hst.out.2 hb]; rfl
        rw [hb] at hcall
        replace hk := Lib.hid hk
        go_wp2_with fail
        refine hcall.out.mono ?_
        rintro e1 w2 ⟨rfl, rfl⟩
        go_wp2_with fail
        go_quiet (fail)
        go_wp2_with fail
        go_ret2
        exact ⟨by rw [← take_part s q pos hk.out, ← drop_part s q pos hk.out]; rfl, below_drewN hbw1 _⟩
      · have hv2 : Hid (N = pos + wd + M5.spanN q (s.data.toList.drop (pos + wd))) := by show _ = _; rw [hv.out, hst.out.1 hb]; omega
        rw [hb] at hcall
        go_wp2_with fail
        refine hcall.out.mono ?_
        rintro e1 w2 ⟨rfl, rfl⟩
        go_wp2_with fail
        go_roundw
        case rel => exact ⟨pos + wd, by omega, hit1, hbw1, hv2⟩
        case measure => rw [iterPos_of hit1, iterPos_of hit]; omega
    · have hnx := fun ty => Lib.run_next_end_at (P := Tryz.prog) wr wo.heap.size s pos ty hit hp
      go_wp2_with fail
      go_ret2
      have hNe : N = s.size := by rw [hv.out, List.drop_of_length_le (by show s.size ≤ pos; omega)]; show pos + 0 = _; omega
      have e1 : M5.bs (s.data.toList.takeWhile q) = s := by rw [← take_part s q N hN.out, hNe, ByteArray.extract_zero_size]
      have e2 : M5.bs (s.data.toList.dropWhile q) = ⟨#[]⟩ := by rw [← drop_part s q N hN.out, hNe]; apply ByteArray.ext; apply Array.ext'; rw [Lib.extract_data]; simp
      exact ⟨by rw [e1, e2]; rfl, hbw⟩
end Go.Proofs.YteefodibpjgicaaGreat

namespace Go.Proofs.YteefodibpjgicaaGreat
open Go.RowKit
theorem bp_of {b c : Bool} {w : World} (h : b = c) : BoolPost b w (.returned (.bool c)) w := by rw [h]; exact ⟨rfl, rfl⟩
theorem askR_name (r : Nat) : askR M5.nameB r = (askR M5.letterB r || decide (48 ≤ r ∧ r ≤ 57) || ((r : Int) == 45)) := by
  have e : ((askR M5.letterB r || askR (fun c => decide (48 ≤ c.toNat ∧ c.toNat ≤ 57)) r) || askR (· == 45) r : Bool) = askR M5.nameB r := rfl
  rw [← e, askR_eq 45 (by decide) r]
  have e2 : askR (fun c => decide (48 ≤ c.toNat ∧ c.toNat ≤ 57)) r = decide (48 ≤ r ∧ r ≤ 57) := by
    unfold askR
    by_cases h : r < 128
    · rw [if_pos h]
      show decide (48 ≤ r.toUInt8.toNat ∧ r.toUInt8.toNat ≤ 57) = _
      rw [u8_low r h]
    · rw [if_neg h]
      rw [decide_eq_decide]
      constructor
      · intro h'; exact absurd h'.2 (by decide)
      · intro h'; omega
  rw [e2]
  rfl
set_option maxHeartbeats 1000000 in
theorem tokNamed1 (r : Nat) (w : World) : Calls Tryz.prog 182 #[.int .i32 (r : Int)] w (BoolPost (askR M5.nameB r) w) := by
  have hL := Lib.hid (fun w => tokLetter r w)
  rw [askR_name]
  generalize askR M5.letterB r = lb at *
  cases lb
  · by_cases h1 : 48 ≤ r
    · by_cases h2 : r ≤ 57
      · have hr : (false || decide (48 ≤ r ∧ r ≤ 57) || ((r : Int) == 45)) = true := by simp [h1, h2]
        rw [hr]
        clear hr
        go_enter Tryz.func182, Tryz.ntmps182
        go_wp2_with (go_at_call 162; refine (hL.out _).mono ?_; rintro e1 w1 ⟨rfl, rfl⟩)
        go_ret
        exact bp_of (by first | rfl | (rw [Bool.eq_iff_iff]; simp; omega))
      · have h45 : ((r : Int) == 45) = false := by simp; omega
        have hr : (false || decide (48 ≤ r ∧ r ≤ 57) || ((r : Int) == 45)) = false := by rw [h45]; simp [h2]
        rw [hr]
        clear hr
        go_enter Tryz.func182, Tryz.ntmps182
        go_wp2_with (go_at_call 162; refine (hL.out _).mono ?_; rintro e1 w1 ⟨rfl, rfl⟩)
        go_ret
        exact bp_of (by first | rfl | (rw [Bool.eq_iff_iff]; simp; omega))
    · cases h45 : ((r : Int) == 45)
      · have hr : (false || decide (48 ≤ r ∧ r ≤ 57) || false) = false := by simp [h1]
        rw [hr]
        clear hr
        go_enter Tryz.func182, Tryz.ntmps182
        go_wp2_with (go_at_call 162; refine (hL.out _).mono ?_; rintro e1 w1 ⟨rfl, rfl⟩)
        go_ret
        exact bp_of (by first | rfl | (rw [Bool.eq_iff_iff]; simp; omega))
      · have hr : (false || decide (48 ≤ r ∧ r ≤ 57) || true) = true := by simp
        rw [hr]
        clear hr
        go_enter Tryz.func182, Tryz.ntmps182
        go_wp2_with (go_at_call 162; refine (hL.out _).mono ?_; rintro e1 w1 ⟨rfl, rfl⟩)
        go_ret
        exact bp_of (by first | rfl | (rw [Bool.eq_iff_iff]; simp; omega))
  · have hr : (true || decide (48 ≤ r ∧ r ≤ 57) || ((r : Int) == 45)) = true := by simp
    rw [hr]
    clear hr
    go_enter Tryz.func182, Tryz.ntmps182
    go_wp2_with (go_at_call 162; refine (hL.out _).mono ?_; rintro e1 w1 ⟨rfl, rfl⟩)
    go_ret
    exact bp_of (by first | rfl | (rw [Bool.eq_iff_iff]; simp; omega))
theorem key_eq (c : UInt8) : M5.keyB c = (!betwB c && !(c == 62)) := by
  unfold M5.keyB M5.stopB betwB
  cases M5.blankB c <;> cases (c == 47) <;> cases (c == 62) <;> cases (c == 61) <;> rfl
theorem askR_key (r : Nat) : askR M5.keyB r = (!askR betwB r && !((r : Int) == 62)) := by
  have h := askR_eq 62 (by decide) r
  unfold askR at *
  rw [key_eq]
  rw [show ((if r < 128 then r.toUInt8 else 128) == (62 : UInt8)) = ((r : Int) == 62) from h]
theorem askR_bare (r : Nat) : askR M5.bareB r = (!askR M5.blankB r && !((r : Int) == 62)) := by
  have h := askR_eq 62 (by decide) r
  unfold askR at *
  show (!M5.blankB _ && !(_ == _)) = _
  rw [show ((if r < 128 then r.toUInt8 else 128) == (62 : UInt8)) = ((r : Int) == 62) from h]
theorem askR_not (d : UInt8) (hd : d.toNat < 128) (r : Nat) : askR (· != d) r = !((r : Int) == (d.toNat : Int)) := by
  rw [← askR_eq d hd r]
  rfl
set_option maxHeartbeats 1000000 in
theorem tokAttr1 (r : Nat) (w : World) : Calls Tryz.prog 184 #[.int .i32 (r : Int)] w (BoolPost (askR M5.keyB r) w) := by
  have hL := Lib.hid (fun w => tokBetween r w)
  rw [askR_key]
  generalize askR betwB r = lb at *
  generalize (r : Int) = n at *
  cases lb
  · cases h62 : (n == 62)
    · have hn : (n != 62) = true := by rw [bne, h62]; rfl
      go_enter Tryz.func184, Tryz.ntmps184
      go_wp2_with (go_at_call 172; refine (hL.out _).mono ?_; rintro e1 w1 ⟨rfl, rfl⟩)
      go_ret
      exact bp_of rfl
    · have hn : (n != 62) = false := by rw [bne, h62]; rfl
      go_enter Tryz.func184, Tryz.ntmps184
      go_wp2_with (go_at_call 172; refine (hL.out _).mono ?_; rintro e1 w1 ⟨rfl, rfl⟩)
      go_ret
      exact bp_of rfl
  · go_enter Tryz.func184, Tryz.ntmps184
    go_wp2_with (go_at_call 172; refine (hL.out _).mono ?_; rintro e1 w1 ⟨rfl, rfl⟩)
    go_ret
    exact bp_of rfl
set_option maxHeartbeats 1000000 in
theorem tokValue1 (r : Nat) (w : World) : Calls Tryz.prog 192 #[.int .i32 (r : Int)] w (BoolPost (askR M5.bareB r) w) := by
  have hL := Lib.hid (fun w => tokBlank r w)
  rw [askR_bare]
  generalize askR M5.blankB r = lb at *
  generalize (r : Int) = n at *
  cases lb
  · cases h62 : (n == 62)
    · have hn : (n != 62) = true := by rw [bne, h62]; rfl
      go_enter Tryz.func192, Tryz.ntmps192
      go_wp2_with (go_at_call 183; refine (hL.out _).mono ?_; rintro e1 w1 ⟨rfl, rfl⟩)
      go_ret
      exact bp_of rfl
    · have hn : (n != 62) = false := by rw [bne, h62]; rfl
      go_enter Tryz.func192, Tryz.ntmps192
      go_wp2_with (go_at_call 183; refine (hL.out _).mono ?_; rintro e1 w1 ⟨rfl, rfl⟩)
      go_ret
      exact bp_of rfl
  · go_enter Tryz.func192, Tryz.ntmps192
    go_wp2_with (go_at_call 183; refine (hL.out _).mono ?_; rintro e1 w1 ⟨rfl, rfl⟩)
    go_ret
    exact bp_of rfl
set_option maxHeartbeats 1000000 in
theorem tokValue2 (r d g : Nat) (w : World) (hc : w.cell? ⟨g, 0, none⟩ = some (.int .i32 (d : Int))) : Calls Tryz.prog 193 #[.int .i32 (r : Int), .pointer (some ⟨g, 0, none⟩)] w (BoolPost (!((r : Int) == (d : Int))) w) := by
  generalize (r : Int) = n at *
  generalize (d : Int) = m at *
  cases h62 : (n == m)
  · have hn : (n != m) = true := by rw [bne, h62]; rfl
    go_enter Tryz.func193, Tryz.ntmps193
    go_wp2_with fail
    go_ret
    exact bp_of rfl
  · have hn : (n != m) = false := by rw [bne, h62]; rfl
    go_enter Tryz.func193, Tryz.ntmps193
    go_wp2_with fail
    go_ret
    exact bp_of rfl
set_option maxHeartbeats 1000000 in
theorem tokEnd1 (r : Nat) (w : World) : Calls Tryz.prog 174 #[.int .i32 (r : Int)] w (BoolPost (!((r : Int) == 62)) w) := by
  generalize (r : Int) = n at *
  cases h62 : (n == 62)
  · have hn : (n != 62) = true := by rw [bne, h62]; rfl
    go_enter Tryz.func174, Tryz.ntmps174
    go_wp2_with fail
    go_ret
    exact bp_of rfl
  · have hn : (n != 62) = false := by rw [bne, h62]; rfl
    go_enter Tryz.func174, Tryz.ntmps174
    go_wp2_with fail
    go_ret
    exact bp_of rfl
theorem flat_blank : Flat M5.blankB := flat_of (by decide +kernel)
theorem flat_betw : Flat betwB := flat_of (by decide +kernel)
theorem flat_name : Flat M5.nameB := flat_of (by decide +kernel)
theorem flat_key : Flat M5.keyB := flat_of (by decide +kernel)
theorem flat_bare : Flat M5.bareB := flat_of (by decide +kernel)
theorem flat_ne (d : UInt8) (hd : d.toNat < 128) : Flat (· != d) := by
  intro c hc
  have h1 : c ≠ d := fun e => by subst e; omega
  have h2 : (128 : UInt8) ≠ d := fun e => by subst e; exact absurd hd (by decide)
  show (c != d) = ((128 : UInt8) != d)
  rw [bne_iff_ne.2 h1, bne_iff_ne.2 h2]
theorem asksBlank (w : World) : Asks 183 #[] M5.blankB w := ⟨enters_of Tryz.func183 (by kernel_rfl) rfl, flat_blank, fun r w _ _ => tokBlank r w⟩
theorem asksBetween (w : World) : Asks 172 #[] betwB w := ⟨enters_of Tryz.func172 (by kernel_rfl) rfl, flat_betw, fun r w _ _ => tokBetween r w⟩
theorem asksNamed (w : World) : Asks 182 #[] M5.nameB w := ⟨enters_of Tryz.func182 (by kernel_rfl) rfl, flat_name, fun r w _ _ => tokNamed1 r w⟩
theorem asksKey (w : World) : Asks 184 #[] M5.keyB w := ⟨enters_of Tryz.func184 (by kernel_rfl) rfl, flat_key, fun r w _ _ => tokAttr1 r w⟩
theorem asksBare (w : World) : Asks 192 #[] M5.bareB w := ⟨enters_of Tryz.func192 (by kernel_rfl) rfl, flat_bare, fun r w _ _ => tokValue1 r w⟩
theorem asksEnd (w : World) : Asks 174 #[] (· != 62) w := ⟨enters_of Tryz.func174 (by kernel_rfl) rfl, flat_ne 62 (by decide), fun r w _ _ => by rw [askR_not 62 (by decide) r]; exact tokEnd1 r w⟩
theorem asksMark (w : World) (d : UInt8) (hd : d.toNat < 128) (g : Nat) (hc : w.cell? ⟨g, 0, none⟩ = some (.int .i32 (d.toNat : Int))) : Asks 193 #[.pointer (some ⟨g, 0, none⟩)] (· != d) w :=
  ⟨enters_of Tryz.func193 (by kernel_rfl) rfl, flat_ne d hd, fun r w1 _ hb => by
    rw [askR_not d hd r]
    exact tokValue2 r d.toNat g w1 (by rw [hb.cell (World.block_lt_of_cell? w _ hc)]; exact hc)⟩
end Go.Proofs.YteefodibpjgicaaGreat

namespace Go.Proofs.YteefodibpjgicaaGreat
open Go.RowKit
theorem idx_three (c : UInt8) : decide (0 ≤ Lib.indexByte [33, 63, 47] c) = ((c == 33) || (c == 63) || (c == 47)) := by
  unfold Lib.indexByte
  unfold Lib.indexByte
  unfold Lib.indexByte
  unfold Lib.indexByte
  rw [Bool.beq_comm (a := (33 : UInt8)), Bool.beq_comm (a := (63 : UInt8)), Bool.beq_comm (a := (47 : UInt8))]
  cases (c == 33) <;> cases (c == 63) <;> cases (c == 47) <;> decide
theorem wrap32_byte (c : UInt8) : wrap32 (c.toNat : Int) = (c.toNat : Int) := by
  have := c.toNat_lt
  unfold wrap32
  omega
set_option maxHeartbeats 2000000 in
set_option maxRecDepth 100000 in
theorem tokStarts (s : ByteArray) (w : World) (hs : s.size ≤ 1073741824) : Calls Tryz.prog 161 #[.string s] w (BoolPost (M5.startsB s.data.toList) w) := by
  by_cases h2 : s.size < 2
  · have e : M5.startsB s.data.toList = false := by
      have : s.data.toList.length < 2 := h2
      generalize s.data.toList = l at *
      match l with
      | [] => rfl
      | [_] => rfl
      | _ :: _ :: _ => simp at this; omega
    rw [e]
    clear e
    go_enter Tryz.func161, Tryz.ntmps161
    go_wp2
    go_ret
    exact ⟨rfl, rfl⟩
  · have e : M5.startsB s.data.toList = (((s[0]'(by omega)) == 60) && (M5.letterB (s[1]'(by omega)) || (s[1]'(by omega)) == 33 || (s[1]'(by omega)) == 63 || (s[1]'(by omega)) == 47)) := by
      have : s.data.toList = s[0] :: s[1] :: s.data.toList.drop 2 := by
        rw [← drop_cons s 1 (by omega)]
        have := drop_cons s 0 (by omega)
        simpa using this
      rw [this]
      rfl
    have i0 : 0 < s.size := by omega
    have i1 : 1 < s.size := by omega
    have hL : Hid (∀ w, Calls Tryz.prog 162 #[.int .i32 (wrap32 (s[1].toNat : Int))] w (BoolPost (askR M5.letterB s[1].toNat) w)) := Lib.hid (fun w => by rw [wrap32_byte]; exact tokLetter s[1].toNat w)
    have hI := Lib.hid (fun w => sIndexByte ⟨#[33, 63, 47]⟩ (s[1].toNat : Int) w)
    have hix : Hid (decide ((0 : Int) ≤ Lib.indexByte [33, 63, 47] ((s[1].toNat : Int)).toNat.toUInt8) = ((s[1] == 33) || (s[1] == 63) || (s[1] == 47))) := by
      show _ = _
      rw [idx_three]
      simp
    have hal : Hid (M5.letterB s[1] = askR M5.letterB s[1].toNat) := by
      show _ = _
      by_cases hc : s[1].toNat < 128
      · rw [ask_low _ _ hc]
      · unfold askR
        rw [if_neg hc]
        unfold M5.letterB
        rw [Bool.eq_iff_iff]
        simp
        omega
    rw [hal.out] at e
    rw [eqI (s[0]) 60] at e
    change M5.startsB s.data.toList = (((s[0].toNat : Int) == 60) && (askR M5.letterB s[1].toNat || (s[1] == 33) || (s[1] == 63) || (s[1] == 47))) at e
    rw [e]
    clear e hal
    cases h60 : ((s[0].toNat : Int) == 60)
    · have hn : ((s[0].toNat : Int) != 60) = true := by rw [bne, h60]; rfl
      go_enter Tryz.func161, Tryz.ntmps161
      go_wp2
      go_ret
      exact ⟨rfl, rfl⟩
    · have hn : ((s[0].toNat : Int) != 60) = false := by rw [bne, h60]; rfl
      cases hl : askR M5.letterB s[1].toNat
      · go_enter Tryz.func161, Tryz.ntmps161
        go_wp2_with fail
        refine (hL.out _).mono ?_
        rintro e1 w1 ⟨rfl, rfl⟩
        rw [hl]
        go_wp2_with fail
        refine (hI.out _).mono ?_
        rintro e1 w1 ⟨rfl, rfl⟩
        go_wp2_with fail
        go_ret
        exact bp_of (by rw [Bool.true_and, Bool.false_or, ← hix.out, Int.toNat_natCast]; simp)
      · go_enter Tryz.func161, Tryz.ntmps161
        go_wp2_with fail
        refine (hL.out _).mono ?_
        rintro e1 w1 ⟨rfl, rfl⟩
        rw [hl]
        go_wp2_with fail
        go_ret
        exact ⟨rfl, rfl⟩
def NamedPost (l : List UInt8) (w : World) (e : Ending) (w' : World) : Prop :=
  e = .returned (.tuple #[.string (M5.bs (M1.fold (l.takeWhile M5.nameB))), .string (M5.bs (l.dropWhile M5.nameB))]) ∧ Below w.heap.size w w'
theorem bs_size (l : List UInt8) : (M5.bs l).size = l.length := by
  show (M5.bs l).data.size = _
  rw [← Array.length_toList, M5.bs_data]
theorem tw_le (q : UInt8 → Bool) (s : ByteArray) : (M5.bs (s.data.toList.takeWhile q)).size ≤ s.size := by
  rw [bs_size]
  exact (List.takeWhile_prefix q).length_le
theorem dw_le (q : UInt8 → Bool) (s : ByteArray) : (M5.bs (s.data.toList.dropWhile q)).size ≤ s.size := by
  rw [bs_size]
  exact (List.dropWhile_suffix q).length_le
set_option maxHeartbeats 2000000 in
set_option maxRecDepth 100000 in
theorem tokNamed (s : ByteArray) (w : World) (hs : s.size ≤ 1073741824) : Calls Tryz.prog 170 #[.string s] w (NamedPost s.data.toList w) := by
  have hT := Lib.hid (tokTake s w (asksNamed w) hs)
  have hl := tw_le M5.nameB s
  have hF := Lib.hid (fun w => utfFold (M5.bs (s.data.toList.takeWhile M5.nameB)) w (by omega))
  rw [M5.bs_data] at hF
  go_enter Tryz.func170, Tryz.ntmps170
  go_wp2_with fail
  refine hT.out.mono ?_
  rintro e1 w1 ⟨rfl, hb1⟩
  go_wp2_with fail
  refine (hF.out _).mono ?_
  rintro e1 w2 ⟨rfl, hb2⟩
  go_wp2_with fail
  go_ret2
  exact ⟨rfl, bt hb1 hb2⟩
def PairPost (p : List UInt8 × List UInt8) (w : World) (e : Ending) (w' : World) : Prop :=
  e = .returned (.tuple #[.string (M5.bs p.1), .string (M5.bs p.2)]) ∧ Below w.heap.size w w'
theorem hasP1 (s : ByteArray) (c : UInt8) : Lib.hasPrefix s.data.toList [c] = (s.data.toList.head? == some c) := by
  show [c].isPrefixOf s.data.toList = _
  cases s.data.toList with
  | nil => rfl
  | cons d r =>
    show (c == d && true) = (some d == some c)
    rw [Bool.and_true, Bool.beq_comm]
    rfl
theorem drop1_bs (s : ByteArray) : s.extract 1 s.size = M5.bs (s.data.toList.drop 1) := by
  rw [bs_cut, List.take_of_length_le (by rw [List.length_drop]; exact Nat.le_refl _)]
theorem bs_drop (l : List UInt8) (k : Nat) : (M5.bs l).extract k l.length = M5.bs (l.drop k) := by
  rw [bs_cut, M5.bs_data, List.take_of_length_le (by rw [List.length_drop]; exact Nat.le_refl _)]
set_option maxHeartbeats 4000000 in
set_option maxRecDepth 100000 in
theorem tokValue (s : ByteArray) (w : World) (hs : s.size ≤ 1073741824) : Calls Tryz.prog 185 #[.string s] w (PairPost (M5.valC s.data.toList) w) := by
  have hH := Lib.hid (fun c w => hasPrefix_any s ⟨#[c]⟩ w)
  have e34 := hasP1 s 34
  have e39 := hasP1 s 39
  have hT := Lib.hid (tokTake s w (asksBare w) hs)
  by_cases hq : ∃ q t, s.data.toList = q :: t ∧ (q = 34 ∨ q = 39)
  · obtain ⟨q, t, hl, hq⟩ := hq
    have h0 : 0 < s.size := by
      have : s.data.toList.length = s.size := rfl
      rw [hl] at this
      simp at this
      omega
    have hq0 : s[0] = q := by
      have := drop_cons s 0 h0
      rw [List.drop_zero, hl] at this
      exact (List.cons.inj this).1.symm
    have hd1 : s.data.toList.drop 1 = t := by rw [hl]; rfl
    have hqn : q.toNat < 128 := by rcases hq with rfl | rfl <;> decide
    have hv : Hid (M5.valC s.data.toList = M5.quoted q t) := by
      show _ = _
      rw [hl, M5.valC, if_pos hq]
    rw [hv.out]
    clear hv
    have e34' : Lib.hasPrefix s.data.toList [34] = (q == 34) := by rw [e34, hl]; rfl
    have e39' : Lib.hasPrefix s.data.toList [39] = (q == 39) := by rw [e39, hl]; rfl
    have hc0 : (w.alloc (.cells #[.int .i32 (q.toNat : Int)] 21)).cell? ⟨w.heap.size, 0, none⟩ = some (.int .i32 (q.toNat : Int)) := by go_simp
    have hA := asksMark (w.alloc (.cells #[.int .i32 (q.toNat : Int)] 21)) q hqn w.heap.size hc0
    have h1s : (s.extract 1 s.size).size ≤ 1073741824 := by rw [ByteArray.size_extract]; omega
    have hx1 : (s.extract 1 s.size).data.toList = t := by rw [drop1_bs, M5.bs_data, hd1]
    obtain ⟨txt, htxt⟩ : ∃ x, Hid (x = M5.bs (t.takeWhile (· != q))) := ⟨_, rfl⟩
    obtain ⟨rest, hrest⟩ : ∃ x, Hid (x = t.dropWhile (· != q)) := ⟨_, rfl⟩
    obtain ⟨rb, hrb⟩ : ∃ x, Hid (x = M5.bs rest) := ⟨_, rfl⟩
    have hT2 : Hid (Calls Tryz.prog 171 #[.string (s.extract 1 s.size), .func (.func 193) #[] #[.pointer (some ⟨w.heap.size, 0, none⟩)]] (w.alloc (.cells #[.int .i32 (q.toNat : Int)] 21)) (fun e w' => e = .returned (.tuple #[.string txt, .string rb]) ∧ Below (w.alloc (.cells #[.int .i32 (q.toNat : Int)] 21)).heap.size (w.alloc (.cells #[.int .i32 (q.toNat : Int)] 21)) w')) := Lib.hid ((tokTake (s.extract 1 s.size) _ hA h1s).mono (by
      rintro e w' ⟨rfl, hb⟩
      rw [hx1, ← htxt.out, ← hrest.out, ← hrb.out]
      exact ⟨rfl, hb⟩))
    have hlen : rb.size = rest.length := by rw [hrb.out, bs_size]
    have hcut : Hid (∀ k, rb.extract k rest.length = M5.bs (rest.drop k)) := Lib.hid (fun k => by rw [hrb.out, bs_drop])
    have hquo : Hid (M5.quoted q t = (t.takeWhile (· != q), rest.drop 1)) := by show _ = _; rw [hrest.out]; rfl
    rw [hquo.out]
    have hb0 := Lib.hid ((Below.refl _ w).alloc (Nat.le_refl _) (.cells #[.int .i32 (q.toNat : Int)] 21))
    replace hd1 := Lib.hid hd1
    replace hl := Lib.hid hl
    clear hT hA hc0 h1s
    have hq3 : (q == 34) = true ∨ ((q == 34) = false ∧ (q == 39) = true) := by
      rcases hq with rfl | rfl
      · exact .inl rfl
      · exact .inr ⟨by decide, rfl⟩
    clear e34 e39
    rcases hq3 with h34 | ⟨h34, h39⟩
    all_goals
      go_enter Tryz.func185, Tryz.ntmps185
      go_wp2_with (first | (go_at_call 104; refine (hasPrefix_any _ _ _).mono ?_; rintro e w1 ⟨rfl, rfl⟩; first | rw [e34', h34] | rw [e39', h39]))
      refine hT2.out.mono ?_
      rintro e1 w2 ⟨rfl, hb2⟩
      have hbW := Lib.hid (bt hb0.out hb2)
      have hmin : Hid (rest.drop (min 1 (rest.length : Int)).toNat = rest.drop 1) := by
        show _ = _
        by_cases hz : rest.length = 0
        · rw [List.drop_of_length_le (by omega), List.drop_of_length_le (by omega)]
        · rw [show (min 1 (rest.length : Int)).toNat = 1 by omega]
      go_wp2_with fail
      go_region
      go_wp2_with fail
      go_ret2
      exact ⟨by rw [← hmin.out, ← hcut.out, ← htxt.out]; rfl, below_drewN hbW.out 1⟩
  · have hv : Hid (M5.valC s.data.toList = (s.data.toList.takeWhile M5.bareB, s.data.toList.dropWhile M5.bareB)) := by
      show _ = _
      cases hl : s.data.toList with
      | nil => rfl
      | cons q t => rw [M5.valC, if_neg (fun h => hq ⟨q, t, hl, h⟩)]
    have e34' : Lib.hasPrefix s.data.toList [34] = false := by
      rw [e34, beq_eq_false_iff_ne]
      intro h
      cases hl : s.data.toList with
      | nil => rw [hl] at h; cases h
      | cons q t => rw [hl] at h; exact hq ⟨q, t, hl, .inl (Option.some.inj h)⟩
    have e39' : Lib.hasPrefix s.data.toList [39] = false := by
      rw [e39, beq_eq_false_iff_ne]
      intro h
      cases hl : s.data.toList with
      | nil => rw [hl] at h; cases h
      | cons q t => rw [hl] at h; exact hq ⟨q, t, hl, .inr (Option.some.inj h)⟩
    rw [hv.out]
    clear hv e34 e39 hq
    go_enter Tryz.func185, Tryz.ntmps185
    go_wp2_with (first | (go_at_call 104; refine (hasPrefix_any _ _ _).mono ?_; rintro e w1 ⟨rfl, rfl⟩; first | rw [e34'] | rw [e39']) | (go_at_call 171; refine hT.out.mono ?_; rintro e1 w1 ⟨rfl, hb1⟩))
    go_ret2
    exact ⟨rfl, hb1⟩
end Go.Proofs.YteefodibpjgicaaGreat

namespace Go.Proofs.YteefodibpjgicaaGreat
open Go.RowKit
def Gives2 (F : Nat) (args : Array Value) (a b : ByteArray) : Prop := ∀ w, Calls Tryz.prog F args w (fun e w' => e = .returned (.tuple #[.string a, .string b]) ∧ Below w.heap.size w w')
def Gives1 (F : Nat) (args : Array Value) (a : ByteArray) : Prop := ∀ w, Calls Tryz.prog F args w (fun e w' => e = .returned (.string a) ∧ Below w.heap.size w w')
theorem take2 {F : Nat} {q : UInt8 → Bool} (hA : ∀ w, Asks F #[] q w) (s : ByteArray) (hs : s.size ≤ 1073741824) : Gives2 171 #[.string s, .func (.func F) #[] #[]] (M5.bs (s.data.toList.takeWhile q)) (M5.bs (s.data.toList.dropWhile q)) := fun w => tokTake s w (hA w) hs
theorem fold1 (s : ByteArray) (hs : s.size ≤ 1073741824) : Gives1 111 #[.string s] (M5.bs (M1.fold s.data.toList)) := fun w => utfFold s w (by omega)
theorem decode1 (s : ByteArray) (hs : s.size ≤ 1073741824) : Gives1 167 #[.string s] (M5.bs (M2.decode s.data.toList)) := fun w => refsDecode s w hs
theorem value2 (s : ByteArray) (hs : s.size ≤ 1073741824) : Gives2 185 #[.string s] (M5.bs (M5.valC s.data.toList).1) (M5.bs (M5.valC s.data.toList).2) := fun w => tokValue s w hs
def AttCPost (p : Att × List UInt8) (w : World) (e : Ending) (w' : World) : Prop :=
  e = .returned (.tuple #[.agg #[.string p.1.name, .string p.1.value], .string (M5.bs p.2)]) ∧ Below w.heap.size w w'
set_option maxHeartbeats 4000000 in
set_option maxRecDepth 100000 in
theorem tokAttribute (s : ByteArray) (w : World) (hs : s.size ≤ 1073741824) : Calls Tryz.prog 173 #[.string s] w (AttCPost (M5.attC s.data.toList) w) := by
  obtain ⟨n0, hn0⟩ : ∃ x, Hid (x = M5.bs (s.data.toList.takeWhile M5.keyB)) := ⟨_, rfl⟩
  obtain ⟨s1, hs1⟩ : ∃ x, Hid (x = M5.bs (s.data.toList.dropWhile M5.keyB)) := ⟨_, rfl⟩
  have hn0s : n0.size ≤ 1073741824 := by rw [hn0.out]; exact Nat.le_trans (tw_le _ s) hs
  have hs1s : s1.size ≤ 1073741824 := by rw [hs1.out]; exact Nat.le_trans (dw_le _ s) hs
  have hT1 := take2 asksKey s hs
  rw [← hn0.out, ← hs1.out] at hT1
  obtain ⟨nm, hnm⟩ : ∃ x, Hid (x = M5.bs (M1.fold n0.data.toList)) := ⟨_, rfl⟩
  have hF := fold1 n0 hn0s
  rw [← hnm.out] at hF
  obtain ⟨x2, hx2⟩ : ∃ x, Hid (x = M5.bs (s1.data.toList.takeWhile M5.blankB)) := ⟨_, rfl⟩
  obtain ⟨s2, hs2⟩ : ∃ x, Hid (x = M5.bs (s1.data.toList.dropWhile M5.blankB)) := ⟨_, rfl⟩
  have hs2s : s2.size ≤ 1073741824 := by rw [hs2.out]; exact Nat.le_trans (dw_le _ s1) hs1s
  have hT2 := take2 asksBlank s1 hs1s
  rw [← hx2.out, ← hs2.out] at hT2
  have hnm2 : Hid (nm = M5.bs (M1.fold (s.data.toList.takeWhile M5.keyB))) := by show _ = _; rw [hnm.out, hn0.out, M5.bs_data]
  have hr0 : Hid ((s.data.toList.dropWhile M5.keyB).dropWhile M5.blankB = s2.data.toList) := by show _ = _; rw [hs2.out, hs1.out, M5.bs_data, M5.bs_data]
  replace hT1 := Lib.hid hT1
  replace hF := Lib.hid hF
  replace hT2 := Lib.hid hT2
  have e61 := hasP1 s2 61
  obtain ⟨wo, rfl⟩ : ∃ wo : World, wo = w := ⟨_, rfl⟩
  have bx0 := Box.new wo 43 [.string ⟨#[]⟩, .string ⟨#[]⟩]
  have hb0 := Lib.hid ((Below.refl _ wo).alloc (Nat.le_refl _) (.cells #[.string ⟨#[]⟩, .string ⟨#[]⟩] 43))
  by_cases h61 : ∃ r, s2.data.toList = 61 :: r
  · obtain ⟨r, hr⟩ := h61
    have e61' : Lib.hasPrefix s2.data.toList [61] = true := by rw [e61, hr]; rfl
    have h2p : 0 < s2.size := by
      have : s2.data.toList.length = s2.size := rfl
      rw [hr] at this
      simp at this
      omega
    have hd2 : (s2.extract 1 s2.size).data.toList = r := by rw [drop1_bs, M5.bs_data, hr]; rfl
    have hd2s : (s2.extract 1 s2.size).size ≤ 1073741824 := by rw [ByteArray.size_extract]; omega
    obtain ⟨x3, hx3⟩ : ∃ x, Hid (x = M5.bs (r.takeWhile M5.blankB)) := ⟨_, rfl⟩
    obtain ⟨s3, hs3⟩ : ∃ x, Hid (x = M5.bs (r.dropWhile M5.blankB)) := ⟨_, rfl⟩
    have hT3 := take2 asksBlank (s2.extract 1 s2.size) hd2s
    rw [hd2, ← hx3.out, ← hs3.out] at hT3
    have hs3s : s3.size ≤ 1073741824 := by
      have := dw_le M5.blankB (s2.extract 1 s2.size)
      rw [hd2, ← hs3.out] at this
      omega
    obtain ⟨x4, hx4⟩ : ∃ x, Hid (x = M5.bs (M5.valC s3.data.toList).1) := ⟨_, rfl⟩
    obtain ⟨s4, hs4⟩ : ∃ x, Hid (x = M5.bs (M5.valC s3.data.toList).2) := ⟨_, rfl⟩
    have hV := value2 s3 hs3s
    rw [← hx4.out, ← hs4.out] at hV
    have hx4s : x4.size ≤ 1073741824 := by
      rw [hx4.out, bs_size]
      have := M5.valC_fst_le s3.data.toList
      have h3 : s3.data.toList.length = s3.size := rfl
      omega
    obtain ⟨dv, hdv⟩ : ∃ x, Hid (x = M5.bs (M2.decode x4.data.toList)) := ⟨_, rfl⟩
    have hD := decode1 x4 hx4s
    rw [← hdv.out] at hD
    have hR : Hid (M5.attC s.data.toList = (⟨nm, dv⟩, (M5.valC s3.data.toList).2)) := by
      show _ = _
      rw [M5.attC_61 _ r (by rw [hr0.out, hr]), ← hnm2.out, hdv.out, hx4.out, hs3.out, M5.bs_data, M5.bs_data]
    rw [hR.out]
    replace hT3 := Lib.hid hT3
    replace hV := Lib.hid hV
    replace hD := Lib.hid hD
    replace hr := Lib.hid hr
    replace hd2 := Lib.hid hd2
    clear e61
    go_enter Tryz.func173, Tryz.ntmps173
    go_wp2_with fail
    refine (hT1.out _).mono ?_
    rintro e1 w1 ⟨rfl, hb1⟩
    have bx1 := bx0.below hb1 bx0.lt
    have hbW1 := Lib.hid (bt hb0.out hb1)
    go_wp2_with fail
    refine (hF.out _).mono ?_
    rintro e1 w2 ⟨rfl, hb2⟩
    have bx2 := bx1.below hb2 bx1.lt
    have hbW2 := Lib.hid (bt hbW1.out hb2)
    go_wp2_with fail
    refine (hT2.out _).mono ?_
    rintro e1 w3 ⟨rfl, hb3⟩
    have ba3 := (Box.new w2 43 [.string nm, .string ⟨#[]⟩]).below hb3 (by simp)
    have bx3 := (bx2.alloc (.cells #[.string nm, .string ⟨#[]⟩] 43)).below hb3 (by simp; exact Nat.lt_succ_of_lt bx2.lt)
    have hbW3 := Lib.hid (bt (hbW2.out.alloc (by have := bx2.lt; omega) (.cells #[.string nm, .string ⟨#[]⟩] 43)) hb3)
    have hz3 : wo.heap.size < w2.heap.size := bx2.lt
    go_wp2_with (go_at_call 104; refine (hasPrefix_any _ _ _).mono ?_; rintro e w1 ⟨rfl, rfl⟩; rw [e61'])
    refine (hT3.out _).mono ?_
    rintro e1 w4 ⟨rfl, hb4⟩
    have ba4 := ba3.below hb4 ba3.lt
    have bx4 := bx3.below hb4 bx3.lt
    have hbW4 := Lib.hid (bt hbW3.out hb4)
    go_wp2_with fail
    refine (hV.out _).mono ?_
    rintro e1 w5 ⟨rfl, hb5⟩
    have ba5 := ba4.below hb5 ba4.lt
    have bx5 := bx4.below hb5 bx4.lt
    have hbW5 := Lib.hid (bt hbW4.out hb5)
    go_wp2_with fail
    refine (hD.out _).mono ?_
    rintro e1 w6 ⟨rfl, hb6⟩
    have ba6 := ba5.below hb6 ba5.lt
    have bx6 := bx5.below hb6 bx5.lt
    have hbW6 := Lib.hid (bt hbW5.out hb6)
    have bav := ba6.set 1 (.string dv)
    simp only [List.set_cons_succ, List.set_cons_zero] at bav
    have v0 := bav.cell (i := 0) rfl
    have v1 := bav.cell (i := 1) rfl
    have bxv := bx6.far (p := ⟨w2.heap.size, 1, none⟩) (by show wo.heap.size ≠ w2.heap.size; omega) (.string dv)
    have r0 := bxv.cell (i := 0) rfl
    have r1 := bxv.cell (i := 1) rfl
    have f0 := bxv.free 0
    have f1 := bxv.free 1
    have kf := ba6.free 1
    have k1 := ba6.cell (i := 1) rfl
    have bxf := Lib.hid (bxv.two (.string nm) (.string dv))
    have hbf := Lib.hid (two_below (hbW6.out.setCell (p := ⟨w2.heap.size, 1, none⟩) (by show wo.heap.size ≤ w2.heap.size; omega) (.string dv)) (g := wo.heap.size) (.string nm) (.string dv) (Nat.le_refl _))
    clear hb1 hb2 hb3 hb4 hb5 hb6
    go_wp2_with fail
    have t0 := bxf.out.cell (i := 0) rfl
    have t1 := bxf.out.cell (i := 1) rfl
    exact bodyPost_ret (v := .tuple #[.agg #[.string nm, .string dv], .string s4]) (by simp [results, Tryz.results173, go_sem, t0, t1]) rfl ⟨by rw [hs4.out], hbf.out⟩
  · have e61' : Lib.hasPrefix s2.data.toList [61] = false := by
      rw [e61, beq_eq_false_iff_ne]
      intro h
      cases hl : s2.data.toList with
      | nil => rw [hl] at h; cases h
      | cons q t => rw [hl] at h; exact h61 ⟨t, by rw [hl, Option.some.inj h]⟩
    have hR : Hid (M5.attC s.data.toList = (⟨nm, ⟨#[]⟩⟩, s2.data.toList)) := by
      show _ = _
      rw [M5.attC_ne _ (fun r h => h61 ⟨r, by rw [← hr0.out]; exact h⟩), ← hnm2.out, hr0.out]
    rw [hR.out]
    replace h61 := Lib.hid h61
    clear e61
    go_enter Tryz.func173, Tryz.ntmps173
    go_wp2_with fail
    refine (hT1.out _).mono ?_
    rintro e1 w1 ⟨rfl, hb1⟩
    have bx1 := bx0.below hb1 bx0.lt
    have hbW1 := Lib.hid (bt hb0.out hb1)
    go_wp2_with fail
    refine (hF.out _).mono ?_
    rintro e1 w2 ⟨rfl, hb2⟩
    have bx2 := bx1.below hb2 bx1.lt
    have hbW2 := Lib.hid (bt hbW1.out hb2)
    go_wp2_with fail
    refine (hT2.out _).mono ?_
    rintro e1 w3 ⟨rfl, hb3⟩
    have ba3 := (Box.new w2 43 [.string nm, .string ⟨#[]⟩]).below hb3 (by simp)
    have bx3 := (bx2.alloc (.cells #[.string nm, .string ⟨#[]⟩] 43)).below hb3 (by simp; exact Nat.lt_succ_of_lt bx2.lt)
    have hbW3 := Lib.hid (bt (hbW2.out.alloc (by have := bx2.lt; omega) (.cells #[.string nm, .string ⟨#[]⟩] 43)) hb3)
    have hz3 : wo.heap.size < w2.heap.size := bx2.lt
    have v0 := ba3.cell (i := 0) rfl
    have v1 := ba3.cell (i := 1) rfl
    have r0 := bx3.cell (i := 0) rfl
    have r1 := bx3.cell (i := 1) rfl
    have f0 := bx3.free 0
    have f1 := bx3.free 1
    have bxf := Lib.hid (bx3.two (.string nm) (.string ⟨#[]⟩))
    have hbf := Lib.hid (two_below hbW3.out (g := wo.heap.size) (.string nm) (.string ⟨#[]⟩) (Nat.le_refl _))
    clear hb1 hb2 hb3
    go_wp2_with (go_at_call 104; refine (hasPrefix_any _ _ _).mono ?_; rintro e w1 ⟨rfl, rfl⟩; rw [e61'])
    have t0 := bxf.out.cell (i := 0) rfl
    have t1 := bxf.out.cell (i := 1) rfl
    exact bodyPost_ret (v := .tuple #[.agg #[.string nm, .string ⟨#[]⟩], .string s2]) (by simp [results, Tryz.results173, go_sem, t0, t1]) rfl ⟨by rw [M5.bs_of], hbf.out⟩
end Go.Proofs.YteefodibpjgicaaGreat

namespace Go.Proofs.YteefodibpjgicaaGreat
open Go.Shelf
def Tryz.lays143_ren : Go.Shelf.Ren := ⟨fun | 143 => 187 | 219 => 194 | 217 => 132 | 225 => 131 | 224 => 130 | 267 => 197 | 266 => 133 | 314 => 199 | n => n, fun | 9 => 9 | 3 => 3 | 4 => 4 | 5 => 5 | 46 => 143 | 146 => 182 | 51 => 151 | n => n, fun | 1 => 0 | n => n⟩
def Tryz.lays145_ren : Go.Shelf.Ren := ⟨fun | 145 => 175 | 220 => 186 | 219 => 194 | 217 => 132 | 225 => 131 | 224 => 130 | 267 => 197 | 266 => 133 | 314 => 199 | n => n, fun | 9 => 9 | 4 => 4 | 59 => 171 | 3 => 3 | 5 => 5 | 46 => 143 | 146 => 182 | 51 => 151 | n => n, fun | 1 => 0 | n => n⟩
theorem Tryz.lays145 : Go.Proofs.Lays.n145 Tryz.prog Tryz.lays145_ren := {
  mixed := by kernel_rfl
  f145 := Tryz.func175.trans (congrArg some (by kernel_rfl))
  f217 := Tryz.func132.trans (congrArg some (by kernel_rfl))
  f219 := Tryz.func194.trans (congrArg some (by kernel_rfl))
  f220 := Tryz.func186.trans (congrArg some (by kernel_rfl))
  f224 := Tryz.func130.trans (congrArg some (by kernel_rfl))
  f225 := Tryz.func131.trans (congrArg some (by kernel_rfl))
  f266 := Tryz.func133.trans (congrArg some (by kernel_rfl))
  f267 := Tryz.func197.trans (congrArg some (by kernel_rfl))
  f314 := Tryz.func199.trans (congrArg some (by kernel_rfl))
  t3 := Tryz.underlying3
  a3 := Tryz.isAgg3
  z3 := Tryz.sizeOf3
  v3 := Tryz.zeroValue3
  t4 := Tryz.underlying4
  a4 := Tryz.isAgg4
  z4 := Tryz.sizeOf4
  v4 := Tryz.zeroValue4
  t5 := Tryz.underlying5
  a5 := Tryz.isAgg5
  z5 := Tryz.sizeOf5
  v5 := Tryz.zeroValue5
  t9 := Tryz.underlying9
  a9 := Tryz.isAgg9
  z9 := Tryz.sizeOf9
  v9 := Tryz.zeroValue9
  t46 := Tryz.underlying143
  a46 := Tryz.isAgg143
  z46 := Tryz.sizeOf143
  v46 := Tryz.zeroValue143
  t51 := Tryz.underlying151
  a51 := Tryz.isAgg151
  z51 := Tryz.sizeOf151
  v51 := Tryz.zeroValue151
  t59 := Tryz.underlying171
  a59 := Tryz.isAgg171
  z59 := Tryz.sizeOf171
  v59 := Tryz.zeroValue171
  t146 := Tryz.underlying182
  a146 := Tryz.isAgg182
  z146 := Tryz.sizeOf182
  v146 := Tryz.zeroValue182
  g1 := by kernel_rfl }
open Go.RowKit Go.Lib in
theorem Tryz.strings_Cut (s sep : ByteArray) (m : Int) (w : World) (hs : s.size < 4294967281) (hm : w.cell? ⟨0, 0, none⟩ = some (.int .i64 m)) :
    Calls Tryz.prog 175 #[.string s, .string sep] w fun e w' => e = .returned (.tuple #[.string ⟨(Lib.cut s.data.toList sep.data.toList).1.toArray⟩, .string ⟨(Lib.cut s.data.toList sep.data.toList).2.1.toArray⟩, .bool (Lib.cut s.data.toList sep.data.toList).2.2]) ∧ ∃ n, w' = w.drewN n := Any.strings_Cut Tryz.lays145 s sep m w hs hm
def Tryz.laysM145_ren : Go.Shelf.Ren := ⟨fun | 145 => 175 | 220 => 186 | 219 => 194 | 217 => 132 | 225 => 131 | 224 => 130 | 267 => 197 | 266 => 133 | 314 => 199 | n => n, fun | 9 => 9 | 4 => 4 | 59 => 171 | 3 => 3 | 5 => 5 | 46 => 143 | 146 => 182 | 51 => 151 | n => n, fun | 1 => 0 | n => n⟩
theorem Tryz.laysM145 : Go.Proofs.LaysM.n145 Tryz.prog Tryz.laysM145_ren := {
  mixed := by kernel_rfl
  f145 := Tryz.func175.trans (congrArg some (by kernel_rfl))
  f217 := Tryz.func132.trans (congrArg some (by kernel_rfl))
  f219 := Tryz.func194.trans (congrArg some (by kernel_rfl))
  f220 := Tryz.func186.trans (congrArg some (by kernel_rfl))
  f224 := Tryz.func130.trans (congrArg some (by kernel_rfl))
  f225 := Tryz.func131.trans (congrArg some (by kernel_rfl))
  f266 := Tryz.func133.trans (congrArg some (by kernel_rfl))
  f267 := Tryz.func197.trans (congrArg some (by kernel_rfl))
  f314 := Tryz.func199.trans (congrArg some (by kernel_rfl))
  t3 := Tryz.underlying3
  a3 := Tryz.isAgg3
  z3 := Tryz.sizeOf3
  v3 := Tryz.zeroValue3
  t4 := Tryz.underlying4
  a4 := Tryz.isAgg4
  z4 := Tryz.sizeOf4
  v4 := Tryz.zeroValue4
  t5 := Tryz.underlying5
  a5 := Tryz.isAgg5
  z5 := Tryz.sizeOf5
  v5 := Tryz.zeroValue5
  t9 := Tryz.underlying9
  a9 := Tryz.isAgg9
  z9 := Tryz.sizeOf9
  v9 := Tryz.zeroValue9
  t46 := Tryz.underlying143
  a46 := Tryz.isAgg143
  z46 := Tryz.sizeOf143
  v46 := Tryz.zeroValue143
  t51 := Tryz.underlying151
  a51 := Tryz.isAgg151
  z51 := Tryz.sizeOf151
  v51 := Tryz.zeroValue151
  t59 := Tryz.underlying171
  a59 := Tryz.isAgg171
  z59 := Tryz.sizeOf171
  v59 := Tryz.zeroValue171
  t146 := Tryz.underlying182
  a146 := Tryz.isAgg182
  z146 := Tryz.sizeOf182
  v146 := Tryz.zeroValue182
  g1 := by kernel_rfl
  i3 := by kernel_rfl
  i4 := by kernel_rfl
  i5 := by kernel_rfl
  i9 := by kernel_rfl
  i46 := by kernel_rfl
  i51 := by kernel_rfl
  i59 := by kernel_rfl
  i146 := by kernel_rfl
  m1 := by kernel_rfl
  s1_3 := fun w h => Go.Proofs.cell_of_shapedOpen_int (zero := #[.int .i64 0]) (t := 3) h (of_decide_eq_true (by kernel_rfl)) (by kernel_rfl) rfl (by kernel_rfl) (by kernel_rfl) Tryz.underlying3 }
end Go.Proofs.YteefodibpjgicaaGreat

namespace Go.Proofs.YteefodibpjgicaaGreat
open Go.RowKit
def Glo (w : World) : Prop := ∃ m : Int, w.cell? ⟨0, 0, none⟩ = some (.int .i64 m)
theorem Glo.below {B : Nat} {w w' : World} (h : Glo w) (hb : Below B w w') (hB : w.heap.size ≤ B) : Glo w' := by
  obtain ⟨m, hm⟩ := h
  exact ⟨m, by rw [hb.cell (Nat.lt_of_lt_of_le (World.block_lt_of_cell? w _ hm) hB)]; exact hm⟩
theorem named2 (s : ByteArray) (hs : s.size ≤ 1073741824) : Gives2 170 #[.string s] (M5.bs (M1.fold (s.data.toList.takeWhile M5.nameB))) (M5.bs (s.data.toList.dropWhile M5.nameB)) := fun w => tokNamed s w hs
theorem clone1 (s : ByteArray) (hs : s.size ≤ 1073741824) : Gives1 169 #[.string s] s := fun w => sClone s w (by omega)
theorem cut_world {s sep : ByteArray} {w : World} (hg : Glo w) (hs : s.size ≤ 1073741824) (hsep : sep.data.toList ≠ []) :
    Calls Tryz.prog 175 #[.string s, .string sep] w fun e w' => ∃ b, e = .returned (.tuple #[.string (M5.bs (M5.uptoR sep.data.toList s.data.toList).1), .string (M5.bs (M5.uptoR sep.data.toList s.data.toList).2), .bool b]) ∧ Below w.heap.size w w' := by
  obtain ⟨m, hm⟩ := hg
  refine (Tryz.strings_Cut s sep m w (by omega) hm).mono ?_
  rintro e w' ⟨rfl, n, rfl⟩
  obtain ⟨e1, e2⟩ := M5.cut_upto sep.data.toList s.data.toList hsep
  exact ⟨_, by rw [e1, e2]; rfl, below_drewN (Below.refl _ _) n⟩
theorem dropk_bs (s : ByteArray) (k : Nat) : s.extract k s.size = M5.bs (s.data.toList.drop k) := by
  rw [bs_cut, List.take_of_length_le (by rw [List.length_drop]; exact Nat.le_refl _)]
theorem isEmpty_yes (s : ByteArray) (h : s.size = 0) : s.toList.isEmpty = true := by
  rw [Lib.toList_data, List.isEmpty_iff]
  exact List.eq_nil_of_length_eq_zero h
theorem isEmpty_no (s : ByteArray) (h : 0 < s.size) : s.toList.isEmpty = false := by
  rw [Lib.toList_data, List.isEmpty_eq_false_iff]
  intro e
  have : s.data.toList.length = s.size := rfl
  rw [e] at this
  simp at this
  omega
theorem tokPost_nil {k : Int} {nm tx : ByteArray} {n : Nat} {z : Int} {w w' : World} (hz : z = (n : Int)) (hb : Below w.heap.size w w') :
    TokPost ⟨k, nm, [], tx⟩ n w (.returned (.tuple #[.agg #[.int .i64 k, .string nm, .slice none 0 0, .string tx], .int .i64 z])) w' := by
  subst hz
  exact ⟨.slice none 0 0, rfl, World.ownsRow_nil _ w.heap.size _ _, hb⟩
set_option maxHeartbeats 4000000 in
set_option maxRecDepth 100000 in
theorem tokRemark (s first last : ByteArray) (w : World) (hg : Glo w) (hs : s.size ≤ 1073741824) (hf : first.size ≤ s.size) (hl : last.data.toList ≠ []) :
    Calls Tryz.prog 165 #[.string s, .string first, .string last] w (TokPost (M5.remarkR last.data.toList (s.data.toList.drop first.size)).1 (s.size - (M5.remarkR last.data.toList (s.data.toList.drop first.size)).2.length) w) := by
  have hx : (s.extract first.size s.size).data.toList = s.data.toList.drop first.size := by rw [dropk_bs, M5.bs_data]
  have hxs : (s.extract first.size s.size).size ≤ 1073741824 := by rw [ByteArray.size_extract]; omega
  have hC := fun (w1 : World) (h : Glo w1) => cut_world (sep := last) h hxs hl
  rw [hx] at hC
  have hsuf := M5.upto_suf last.data.toList (s.data.toList.drop first.size)
  have hle := hsuf.le
  rw [List.length_drop, show s.data.toList.length = s.size from rfl] at hle
  have hsuf2 := (hsuf.trans (M5.Suf.drop _ _)).at_
  unfold M5.remarkR
  obtain ⟨tx, htx⟩ : ∃ x, Hid (x = M5.bs (M5.uptoR last.data.toList (s.data.toList.drop first.size)).1) := ⟨_, rfl⟩
  obtain ⟨rs, hrs⟩ : ∃ x, Hid (x = M5.bs (M5.uptoR last.data.toList (s.data.toList.drop first.size)).2) := ⟨_, rfl⟩
  have htxs : tx.size ≤ 1073741824 := by
    rw [htx.out, bs_size]
    have : (M5.uptoR last.data.toList (s.data.toList.drop first.size)).1.length ≤ (s.data.toList.drop first.size).length := by
      unfold M5.uptoR
      split
      · exact List.length_take_le' _ _
      · exact Nat.le_refl _
    rw [List.length_drop, show s.data.toList.length = s.size from rfl] at this
    omega
  have hrss : rs.size = (M5.uptoR last.data.toList (s.data.toList.drop first.size)).2.length := by rw [hrs.out, bs_size]
  rw [← htx.out, ← hrs.out] at hC
  rw [← htx.out]
  have hD := clone1 tx htxs
  generalize (M5.uptoR last.data.toList (s.data.toList.drop first.size)).2 = R at *
  replace hC := Lib.hid hC
  replace hD := Lib.hid hD
  replace hsuf2 := Lib.hid hsuf2
  replace hx := Lib.hid hx
  obtain ⟨wo, rfl⟩ : ∃ wo : World, wo = w := ⟨_, rfl⟩
  have bx0 := Box.new wo 87 [.int .i64 0, .string ⟨#[]⟩, .slice none 0 0, .string ⟨#[]⟩]
  have hb0 := (Below.refl _ wo).alloc (Nat.le_refl _) (.cells #[.int .i64 0, .string ⟨#[]⟩, .slice none 0 0, .string ⟨#[]⟩] 87)
  have hg0 := Lib.hid (hg.below hb0 (Nat.le_refl _))
  replace hb0 := Lib.hid hb0
  go_enter Tryz.func165, Tryz.ntmps165
  go_wp2_with fail
  refine (hC.out _ hg0.out).mono ?_
  rintro e1 w1 ⟨b, rfl, hb1⟩
  have bx1 := bx0.below hb1 bx0.lt
  have hbW1 := Lib.hid (bt hb0.out hb1)
  go_wp2_with fail
  refine (hD.out _).mono ?_
  rintro e1 w2 ⟨rfl, hb2⟩
  have bx2 := bx1.below hb2 bx1.lt
  have hbW2 := Lib.hid (bt hbW1.out hb2)
  have f0 := bx2.free
  have z0 := bx2.cell (i := 0) rfl
  have z1 := bx2.cell (i := 1) rfl
  have z2 := bx2.cell (i := 2) rfl
  have z3 := bx2.cell (i := 3) rfl
  have hsub : ¬ ((s.size : Int) - (R.length : Int) < 0) := by omega
  go_wp2_with fail
  have bf := bx2.four (.int .i64 4) (.string ⟨#[]⟩) (.slice none 0 0) (.string tx)
  have q0 := bf.cell (i := 0) rfl
  have q1 := bf.cell (i := 1) rfl
  have q2 := bf.cell (i := 2) rfl
  have q3 := bf.cell (i := 3) rfl
  exact bodyPost_ret (v := .tuple #[.agg #[.int .i64 4, .string ⟨#[]⟩, .slice none 0 0, .string tx], .int .i64 ((s.size : Int) - (R.length : Int))]) (by simp [results, Tryz.results165, go_sem, q0, q1, q2, q3]) rfl (tokPost_nil (by omega) (four_below hbW2.out _ _ _ _ (Nat.le_refl _)))
set_option maxHeartbeats 4000000 in
set_option maxRecDepth 100000 in
theorem tokEnd (s : ByteArray) (w : World) (hs : s.size ≤ 1073741824) (h2 : 2 ≤ s.size) :
    Calls Tryz.prog 164 #[.string s] w (TokPost (M5.endR (s.data.toList.drop 2)).1 (s.size - (M5.endR (s.data.toList.drop 2)).2.length) w) := by
  have hx : (s.extract 2 s.size).data.toList = s.data.toList.drop 2 := by rw [dropk_bs, M5.bs_data]
  have hxs : (s.extract 2 s.size).size ≤ 1073741824 := by rw [ByteArray.size_extract]; omega
  have hN := named2 (s.extract 2 s.size) hxs
  have hdl : (s.data.toList.drop 2).length = s.size - 2 := by rw [List.length_drop]; rfl
  rw [hx] at hN
  obtain ⟨nm, hnm⟩ : ∃ x, Hid (x = M5.bs (M1.fold ((s.data.toList.drop 2).takeWhile M5.nameB))) := ⟨_, rfl⟩
  obtain ⟨s1, hs1⟩ : ∃ x, Hid (x = M5.bs ((s.data.toList.drop 2).dropWhile M5.nameB)) := ⟨_, rfl⟩
  rw [← hnm.out, ← hs1.out] at hN
  have hs1l : s1.size ≤ s.size - 2 := by rw [hs1.out, bs_size, ← hdl]; exact (List.dropWhile_suffix _).length_le
  have hT := take2 asksEnd s1 (by omega)
  obtain ⟨x2, hx2⟩ : ∃ x, Hid (x = M5.bs (s1.data.toList.takeWhile (· != 62))) := ⟨_, rfl⟩
  obtain ⟨s2, hs2⟩ : ∃ x, Hid (x = M5.bs (s1.data.toList.dropWhile (· != 62))) := ⟨_, rfl⟩
  rw [← hx2.out, ← hs2.out] at hT
  have hs2e : s2 = M5.bs ((s.data.toList.drop 2).drop (M5.findL [62] (s.data.toList.drop 2))) := by rw [hs2.out, hs1.out, M5.bs_data, M5.drop_name]
  have hs2z : s2.size = s.size - 2 - M5.findL [62] (s.data.toList.drop 2) := by rw [hs2e, bs_size, List.length_drop, hdl]
  have hE : Hid (M5.endR (s.data.toList.drop 2) = if M5.findL [62] (s.data.toList.drop 2) < s.size - 2 then (⟨2, nm, [], ⟨#[]⟩⟩, s.data.toList.drop (2 + (M5.findL [62] (s.data.toList.drop 2) + 1))) else (M5.zero, [])) := by
    show _ = _
    rw [M5.endR, hdl, hnm.out, List.drop_drop]
  rw [hE.out]
  have hfl := M5.findL_le [62] (s.data.toList.drop 2)
  rw [hdl] at hfl
  generalize M5.findL [62] (s.data.toList.drop 2) = F at *
  replace hN := Lib.hid hN
  replace hT := Lib.hid hT
  replace hs2e := Lib.hid hs2e
  replace hx := Lib.hid hx
  replace hdl := Lib.hid hdl
  obtain ⟨wo, rfl⟩ : ∃ wo : World, wo = w := ⟨_, rfl⟩
  have bx0 := Box.new wo 87 [.int .i64 0, .string ⟨#[]⟩, .slice none 0 0, .string ⟨#[]⟩]
  have hb0 := Lib.hid ((Below.refl _ wo).alloc (Nat.le_refl _) (.cells #[.int .i64 0, .string ⟨#[]⟩, .slice none 0 0, .string ⟨#[]⟩] 87))
  by_cases hF : F < s.size - 2
  · rw [if_pos hF]
    have hne : s2.toList.isEmpty = false := isEmpty_no s2 (by omega)
    have hlen : (s.data.toList.drop (2 + (F + 1))).length = s.size - (2 + (F + 1)) := by rw [List.length_drop]; rfl
    replace hlen := Lib.hid hlen
    go_enter Tryz.func164, Tryz.ntmps164
    go_wp2_with fail
    refine (hN.out _).mono ?_
    rintro e1 w1 ⟨rfl, hb1⟩
    have bx1 := bx0.below hb1 bx0.lt
    have hbW1 := Lib.hid (bt hb0.out hb1)
    go_wp2_with fail
    refine (hT.out _).mono ?_
    rintro e1 w2 ⟨rfl, hb2⟩
    have bx2 := bx1.below hb2 bx1.lt
    have hbW2 := Lib.hid (bt hbW1.out hb2)
    have f0 := bx2.free
    have z0 := bx2.cell (i := 0) rfl
    have z1 := bx2.cell (i := 1) rfl
    have z2 := bx2.cell (i := 2) rfl
    have z3 := bx2.cell (i := 3) rfl
    have bf := Lib.hid (bx2.four (.int .i64 2) (.string nm) (.slice none 0 0) (.string ⟨#[]⟩))
    clear hb1 hb2
    go_wp2_with fail
    have q0 := bf.out.cell (i := 0) rfl
    have q1 := bf.out.cell (i := 1) rfl
    have q2 := bf.out.cell (i := 2) rfl
    have q3 := bf.out.cell (i := 3) rfl
    exact bodyPost_ret (v := .tuple #[.agg #[.int .i64 2, .string nm, .slice none 0 0, .string ⟨#[]⟩], .int .i64 ((s.size : Int) - ((s.size - 2 - F : Nat) : Int) + 1)]) (by simp [results, Tryz.results164, go_sem, q0, q1, q2, q3]) rfl (tokPost_nil (by have := hlen.out; omega) (four_below hbW2.out _ _ _ _ (Nat.le_refl _)))
  · rw [if_neg hF]
    have hze : s2.size = 0 := by omega
    have hne : s2.toList.isEmpty = true := isEmpty_yes s2 hze
    replace hze := Lib.hid hze
    go_enter Tryz.func164, Tryz.ntmps164
    go_wp2_with fail
    refine (hN.out _).mono ?_
    rintro e1 w1 ⟨rfl, hb1⟩
    have bx1 := bx0.below hb1 bx0.lt
    have hbW1 := Lib.hid (bt hb0.out hb1)
    go_wp2_with fail
    refine (hT.out _).mono ?_
    rintro e1 w2 ⟨rfl, hb2⟩
    have bx2 := bx1.below hb2 bx1.lt
    have hbW2 := Lib.hid (bt hbW1.out hb2)
    have f0 := bx2.free
    have z0 := bx2.cell (i := 0) rfl
    have z1 := bx2.cell (i := 1) rfl
    have z2 := bx2.cell (i := 2) rfl
    have z3 := bx2.cell (i := 3) rfl
    have bf := Lib.hid (bx2.four (.int .i64 0) (.string ⟨#[]⟩) (.slice none 0 0) (.string ⟨#[]⟩))
    clear hb1 hb2
    go_wp2_with fail
    have q0 := bf.out.cell (i := 0) rfl
    have q1 := bf.out.cell (i := 1) rfl
    have q2 := bf.out.cell (i := 2) rfl
    have q3 := bf.out.cell (i := 3) rfl
    exact bodyPost_ret (v := .tuple #[.agg #[.int .i64 0, .string ⟨#[]⟩, .slice none 0 0, .string ⟨#[]⟩], .int .i64 (s.size : Int)]) (by simp [results, Tryz.results164, go_sem, q0, q1, q2, q3]) rfl (tokPost_nil (by show _ = ((s.size - 0 : Nat) : Int); omega) (four_below hbW2.out _ _ _ _ (Nat.le_refl _)))
end Go.Proofs.YteefodibpjgicaaGreat

namespace Go.Proofs.YteefodibpjgicaaGreat
open Go.RowKit Go.Maps
theorem zeroUnit (w : World) : (zeroValue 116).run Tryz.prog w = .ok (.agg #[]) w := by kernel_rfl
theorem keyS : Keyed Tryz.prog 9 := string_keyed Tryz.underlying9
def keyL (a : Att) : Lit := .string a.name.data.toList
def stoodD (acc : List Att) : DataW Unit := setOf (H := Unit) (.agg []) (acc.map keyL)
theorem keyL_isKey (acc : List Att) : ∀ x ∈ acc.map keyL, WideAt.IsKeyLit x := by
  intro x hx
  obtain ⟨a, _, rfl⟩ := List.mem_map.1 hx
  exact trivial
theorem has_stood (acc : List Att) (nm : ByteArray) : Maps.has (stoodD acc) (.string nm.data.toList) = acc.any fun b => M3.eqB b.name nm := by
  unfold stoodD
  rw [has_setOf _ _ _ (keyL_isKey acc), List.any_map]
  congr 1
  funext b
  show (Lit.string b.name.data.toList).sameKey (.string nm.data.toList) = M3.eqB b.name nm
  unfold M3.eqB
  rw [Lib.toList_data, Lib.toList_data]
  rfl
theorem stood_snoc (acc : List Att) (a : Att) : stoodD (acc ++ [a]) = (stoodD acc).put (.string a.name.data.toList) (.agg []) := by
  unfold stoodD
  rw [List.map_append, List.map_cons, List.map_nil, setOf_snoc]
  rfl
theorem stood_nil : stoodD [] = .map [] := rfl
theorem betw_over : betwB = M5.overB := rfl
theorem own_off {W : World} {B g j : Nat} {e : TypeId} {k n : Nat} {v : Value} {xs : List Value} (h : W.ownsRow B e k v n xs) (hg : ∀ b, v.ownBlock = some b → b ≠ g) (c : Value) : (W.setCell ⟨g, j, none⟩ c).ownsRow B e k v n xs :=
  own_keep5 h fun b hb => Below.heap_setCell W ⟨g, j, none⟩ c b (hg b hb)
def strLen : Value → Nat
  | .string s => s.size
  | _ => 0
theorem attr2 (s : ByteArray) (hs : s.size ≤ 1073741824) : ∀ w, Calls Tryz.prog 173 #[.string s] w (fun e w' => e = .returned (.tuple #[.agg #[.string (M5.attC s.data.toList).1.name, .string (M5.attC s.data.toList).1.value], .string (M5.bs (M5.attC s.data.toList).2)]) ∧ Below w.heap.size w w') := fun w => tokAttribute s w hs
theorem tokPost_own {t : Tok} {n : Nat} {z : Int} {va : Value} {B : Nat} {w w' : World} (hz : z = (n : Int)) (ho : w'.ownsRow B 43 2 va t.attrs.length (cellsA t.attrs)) (hB : w.heap.size ≤ B) (hb : Below w.heap.size w w') :
    TokPost t n w (.returned (.tuple #[.agg #[.int .i64 t.kind, .string t.name, va, .string t.text], .int .i64 z])) w' := by
  subst hz
  exact ⟨va, rfl, own_le ho hB, hb⟩
set_option maxHeartbeats 8000000 in
set_option maxRecDepth 100000 in
theorem tokBegin (s : ByteArray) (w : World) (hs : s.size ≤ 1073741824) (h1 : 1 ≤ s.size) :
    Calls Tryz.prog 163 #[.string s] w (TokPost (M5.beginR s.data.toList).1 (s.size - (M5.beginR s.data.toList).2.length) w) := by
  have hx : (s.extract 1 s.size).data.toList = s.data.toList.drop 1 := by rw [dropk_bs, M5.bs_data]
  have hxs : (s.extract 1 s.size).size ≤ 1073741824 := by rw [ByteArray.size_extract]; omega
  have hN := named2 (s.extract 1 s.size) hxs
  rw [hx] at hN
  obtain ⟨nm, hnm⟩ : ∃ x, Hid (x = M5.bs (M1.fold ((s.data.toList.drop 1).takeWhile M5.nameB))) := ⟨_, rfl⟩
  obtain ⟨R0, hR0⟩ : ∃ x, Hid (x = (s.data.toList.drop 1).dropWhile M5.nameB) := ⟨_, rfl⟩
  rw [← hnm.out, ← hR0.out] at hN
  have hR0l : R0.length ≤ s.size := by
    have h2 := ((M5.Suf.dropWhile M5.nameB (s.data.toList.drop 1)).trans (M5.Suf.drop _ _)).le
    rw [← hR0.out] at h2
    exact h2
  have hbe : Hid (M5.beginR s.data.toList = match M5.attsR R0 [] with
      | some (as_, r) => (⟨1, nm, as_, ⟨#[]⟩⟩, r)
      | none => (M5.zero, [])) := by
    show _ = _
    rw [M5.begin_eq, hnm.out, hR0.out]
    try (cases M5.attsR ((s.data.toList.drop 1).dropWhile M5.nameB) [] <;> rfl)
  generalize hP : M5.beginR s.data.toList = P at *
  replace hP := Lib.hid hP
  replace hN := Lib.hid hN
  replace hx := Lib.hid hx
  have hmm := @run_makeMap Tryz.prog
  obtain ⟨wo, rfl⟩ : ∃ wo : World, wo = w := ⟨_, rfl⟩
  go_enter Tryz.func163, Tryz.ntmps163
  go_wp2_with fail
  refine (hN.out _).mono ?_
  rintro e1 w1 ⟨rfl, hb1⟩
  have bz1 := (Box.new wo 87 [.int .i64 0, .string ⟨#[]⟩, .slice none 0 0, .string ⟨#[]⟩]).below hb1 (by simp)
  have b1 : Below wo.heap.size wo w1 := bt ((Below.refl _ wo).alloc (Nat.le_refl _) _) hb1
  have hs1 : wo.heap.size < w1.heap.size := bz1.lt
  go_wp2_with fail
  go_loopw [5] (fun u5 wr => ∃ (R : List UInt8) (acc : List Att) (va : Value) (n : Nat), acc.length + R.length ≤ s.size ∧ u5 = .string (M5.bs R) ∧ n ≤ acc.length ∧ Box wr wo.heap.size 87 [.int .i64 0, .string ⟨#[]⟩, .slice none 0 0, .string ⟨#[]⟩] ∧ Box wr w1.heap.size 87 [.int .i64 1, .string nm, va, .string ⟨#[]⟩] ∧ wr.ownsMap Tryz.prog 9 (unitElem (H := Unit)) (w1.heap.size + 1) n (stoodD acc) ∧ wr.ownsRow (w1.heap.size + 2) 43 2 va acc.length (cellsA acc) ∧ Below wo.heap.size wo wr ∧ w1.heap.size + 2 ≤ wr.heap.size ∧ Hid (M5.attsR R0 [] = M5.attsR R acc)) (fun u5 _ => strLen u5)
  case atStart =>
    refine ⟨R0, [], .slice none 0 0, 0, by simpa using hR0l, rfl, Nat.le_refl _, (bz1.alloc _).alloc _, (Box.new w1 87 [.int .i64 1, .string nm, .slice none 0 0, .string ⟨#[]⟩]).alloc _, ?_, World.ownsRow_nil _ _ _ _, (b1.alloc (by omega) _).alloc (by simp; omega) _, by simp, Lib.hid rfl⟩
    have := World.ownsMap_made (H := Unit) (w1.alloc (.cells #[.int .i64 1, .string nm, .slice none 0 0, .string ⟨#[]⟩] 87)) Tryz.prog 9 unitElem
    simpa [stood_nil] using this
  case round =>
    obtain ⟨R, acc, va, n, hal, rfl, hn, bz, bx, hmap, hown, hb, hws, hv⟩ := hrel
    have hRs : (M5.bs R).size ≤ 1073741824 := by rw [bs_size]; omega
    have hT := take2 asksBetween (M5.bs R) hRs
    rw [M5.bs_data] at hT
    obtain ⟨R1, hR1⟩ : ∃ x, Hid (x = R.dropWhile betwB) := ⟨_, rfl⟩
    obtain ⟨x1, hx1⟩ : ∃ x, Hid (x = M5.bs (R.takeWhile betwB)) := ⟨_, rfl⟩
    rw [← hR1.out, ← hx1.out] at hT
    have hR1l : R1.length ≤ R.length := by rw [hR1.out]; exact (List.dropWhile_suffix _).length_le
    have hv1 : Hid (M5.attsR R0 [] = M5.attsR R1 acc) := by show _ = _; rw [hv.out, M5.atts_over, hR1.out]; rfl
    have hhead := M5.over_head R
    rw [← betw_over, ← hR1.out, betw_over] at hhead
    replace hT := Lib.hid hT
    clear hv hx1
    have hRz : (M5.bs R).size = R.length := bs_size R
    obtain ⟨rt, hrt⟩ : ∃ x, Hid (x = M5.bs R) := ⟨_, rfl⟩
    obtain ⟨rt1, hrt1⟩ : ∃ x, Hid (x = M5.bs R1) := ⟨_, rfl⟩
    have hrt1z : rt1.size = R1.length := by rw [hrt1.out, bs_size]
    have hrt1d : Hid (rt1.data.toList = R1) := by show _ = _; rw [hrt1.out, M5.bs_data]
    rw [← hrt.out, ← hrt1.out] at hT
    rw [← hrt.out]
    go_wp2_with fail
    refine (hT.out _).mono ?_
    rintro e1 w2 ⟨rfl, hb2⟩
    have bz2 := bz.below hb2 bz.lt
    have bx2 := bx.below hb2 bx.lt
    have hmap2 := ownsMap_below hmap hb2
    have hown2 := own_below hown hb2
    have hbW2 := Lib.hid (bt hb hb2)
    have hws2 : w1.heap.size + 2 ≤ w2.heap.size := Nat.le_trans hws hb2.size
    have z0 := bz2.cell (i := 0) rfl
    have z1 := bz2.cell (i := 1) rfl
    have z2 := bz2.cell (i := 2) rfl
    have z3 := bz2.cell (i := 3) rfl
    have fz := bz2.free
    clear bz bx hmap hown hb hb2 hws
    cases hc : R1 with
    | nil =>
      have hin : Hid (P = (M5.zero, [])) := by show _ = _; rw [hbe.out, hv1.out, hc, M5.attsR_nil]
      have hem : rt1.toList.isEmpty = true := isEmpty_yes rt1 (by rw [hrt1z, hc]; rfl)
      replace hc := Lib.hid hc
      go_wp2_with fail
      have bf := bz2.four (.int .i64 0) (.string ⟨#[]⟩) (.slice none 0 0) (.string ⟨#[]⟩)
      have q0 := bf.cell (i := 0) rfl
      have q1 := bf.cell (i := 1) rfl
      have q2 := bf.cell (i := 2) rfl
      have q3 := bf.cell (i := 3) rfl
      exact bodyPost_ret (v := .tuple #[.agg #[.int .i64 0, .string ⟨#[]⟩, .slice none 0 0, .string ⟨#[]⟩], .int .i64 (s.size : Int)]) (by simp [results, Tryz.results163, go_sem, q0, q1, q2, q3]) rfl (by rw [hin.out]; exact tokPost_nil (by show _ = ((s.size - 0 : Nat) : Int); omega) (four_below hbW2.out _ _ _ _ (Nat.le_refl _)))
    | cons c r =>
      have hno : M5.overB c = false := hhead c r hc
      have h1p : 0 < rt1.size := by rw [hrt1z, hc]; simp
      have hem : rt1.toList.isEmpty = false := isEmpty_no rt1 h1p
      have hc0 : rt1[0] = c := by
        have := drop_cons rt1 0 h1p
        rw [List.drop_zero, hrt1d.out, hc] at this
        exact (List.cons.inj this).1.symm
      have hrl : R1.length = r.length + 1 := by rw [hc]; rfl
      by_cases h62 : c = 62
      · have e62 : ((c.toNat : Int) == 62) = true := by rw [h62]; rfl
        have hin : Hid (P = (⟨1, nm, acc, ⟨#[]⟩⟩, r)) := by
          show _ = _
          rw [hbe.out, hv1.out, hc, M5.attsR_cons, if_pos h62]
        obtain ⟨a, cap, rfl⟩ := own_slice5 hown2
        have t0 := bx2.cell (i := 0) rfl
        have t1 := bx2.cell (i := 1) rfl
        have t2 := bx2.cell (i := 2) rfl
        have t3 := bx2.cell (i := 3) rfl
        replace hc := Lib.hid hc
        go_wp2_with fail
        have bf := bz2.four (.int .i64 1) (.string nm) (.slice a acc.length cap) (.string ⟨#[]⟩)
        have q0 := bf.cell (i := 0) rfl
        have q1 := bf.cell (i := 1) rfl
        have q2 := bf.cell (i := 2) rfl
        have q3 := bf.cell (i := 3) rfl
        have ho4 := own_four (g := wo.heap.size) hown2 (by omega) (.int .i64 1) (.string nm) (.slice a acc.length cap) (.string ⟨#[]⟩)
        exact bodyPost_ret (v := .tuple #[.agg #[.int .i64 1, .string nm, .slice a acc.length cap, .string ⟨#[]⟩], .int .i64 ((s.size : Int) - ((r.length : Int) + 1) + 1)]) (by simp [results, Tryz.results163, go_sem, q0, q1, q2, q3]) rfl (by rw [hin.out]; exact tokPost_own (t := ⟨1, nm, acc, ⟨#[]⟩⟩) (by show _ = ((s.size - r.length : Nat) : Int); omega) ho4 (by omega) (four_below hbW2.out _ _ _ _ (Nat.le_refl _)))
      · have e62 : ((c.toNat : Int) == 62) = false := by rw [show ((c.toNat : Int) == 62) = (c == 62) from (eqI _ 62).symm]; exact beq_eq_false_iff_ne.2 h62
        obtain ⟨at0, R2, hp⟩ : ∃ a r, Hid (M5.attC R1 = (a, r)) := ⟨(M5.attC R1).1, (M5.attC R1).2, rfl⟩
        have hR2 : R2.length < R1.length := by
          have := M5.attC_lt c r hno h62
          rw [← hc, hp.out] at this
          exact this
        have hv2 : Hid (M5.attsR R0 [] = M5.attsR R2 (M5.addT acc at0)) := by
          show _ = _
          rw [hv1.out, hc, M5.atts_one c r acc hno h62, ← hc, hp.out]
        have hA := attr2 rt1 (by omega)
        rw [hrt1d.out, hp.out] at hA
        have hnl : at0.name.size ≤ 1073741824 := by
          have h := M5.attC_name_le R1
          rw [hp.out] at h
          have h : at0.name.size ≤ R1.length := h
          omega
        replace hA := Lib.hid hA
        replace hc := Lib.hid hc
        replace hp := Lib.hid hp
        clear hhead z0 z1 z2 z3 fz
        have bz2' := bz2.alloc (.cells #[.string ⟨#[]⟩, .string ⟨#[]⟩] 43)
        have bx2' := bx2.alloc (.cells #[.string ⟨#[]⟩, .string ⟨#[]⟩] 43)
        have ba2' := Box.new w2 43 [.string ⟨#[]⟩, .string ⟨#[]⟩]
        have hmap2' := hmap2.alloc (.cells #[.string ⟨#[]⟩, .string ⟨#[]⟩] 43)
        have hown2' := hown2.alloc (.cells #[.string ⟨#[]⟩, .string ⟨#[]⟩] 43)
        have hbW2' := hbW2.out.alloc hbW2.out.size (.cells #[.string ⟨#[]⟩, .string ⟨#[]⟩] 43)
        replace hbW2' := Lib.hid hbW2'
        go_wp2_with fail
        refine (hA.out _).mono ?_
        rintro e1 w3 ⟨rfl, hb3⟩
        have bz3 := bz2'.below hb3 bz2'.lt
        have bx3 := bx2'.below hb3 bx2'.lt
        have ba3 := ba2'.below hb3 ba2'.lt
        have hmap3 := ownsMap_below hmap2' hb3
        have hown3 := own_below hown2' hb3
        have hbW3 := Lib.hid (bt hbW2'.out hb3)
        have hz2 := bz2.lt
        have hx2 := bx2.lt
        have hs3 : w2.heap.size + 1 ≤ w3.heap.size := by have := hb3.size; simpa using this
        have y0 := ba3.cell (i := 0) rfl
        have y1 := ba3.cell (i := 1) rfl
        have fy := ba3.free
        have ba4 := Lib.hid (ba3.two (.string at0.name) (.string at0.value))
        have bz4 := Lib.hid ((bz3.far (p := ⟨w2.heap.size, 0, none⟩) (by show wo.heap.size ≠ w2.heap.size; omega) (.string at0.name)).far (p := ⟨w2.heap.size, 1, none⟩) (by show wo.heap.size ≠ w2.heap.size; omega) (.string at0.value))
        have bx4 := Lib.hid ((bx3.far (p := ⟨w2.heap.size, 0, none⟩) (by show w1.heap.size ≠ w2.heap.size; omega) (.string at0.name)).far (p := ⟨w2.heap.size, 1, none⟩) (by show w1.heap.size ≠ w2.heap.size; omega) (.string at0.value))
        have hmap4 := Lib.hid ((hmap3.setCell (a := ⟨w2.heap.size, 0, none⟩) (by show w1.heap.size + 1 ≠ w2.heap.size; omega) (.string at0.name)).setCell (a := ⟨w2.heap.size, 1, none⟩) (by show w1.heap.size + 1 ≠ w2.heap.size; omega) (.string at0.value))
        have hvan : ∀ b, va.ownBlock = some b → b ≠ w2.heap.size := fun b h => by have := (hown2.lt b h).2; omega
        clear hb3 bz2' bx2' ba2' hmap2' hown2'
        have hown4 := Lib.hid (own_off (g := w2.heap.size) (j := 1) (own_off (g := w2.heap.size) (j := 0) hown3 hvan (.string at0.name)) hvan (.string at0.value))
        have hbW4 := Lib.hid (two_below hbW3.out (g := w2.heap.size) (.string at0.name) (.string at0.value) (by omega))
        go_upto_region 11 with fail
        have hz4 : ((w3.setCell ⟨w2.heap.size, 0, none⟩ (.string at0.name)).setCell ⟨w2.heap.size, 1, none⟩ (.string at0.value)).heap.size = w3.heap.size := by simp
        clear bz3 bx3 ba3 hmap3 hown3 hbW3 y0 y1 fy
        generalize (w3.setCell ⟨w2.heap.size, 0, none⟩ (.string at0.name)).setCell ⟨w2.heap.size, 1, none⟩ (.string at0.value) = w4 at *
        have y0 := ba4.out.cell (i := 0) rfl
        have y1 := ba4.out.cell (i := 1) rfl
        have hkey : keyOf Tryz.prog 9 (.string at0.name) = some (.string at0.name.data.toList) := WideMaps.keyOf_string_mk Tryz.underlying9 (s := at0.name) (by unfold maxLen; omega)
        have hhas := has_stood acc at0.name
        go_upto_region 12 with (at_lookup; refine wpList_lookup_own_unit _ rfl _ _ 115 rfl 9 116 keyS Tryz.underlying115 (zeroUnit _) (w1.heap.size + 1) n _ rfl hmap4.out _ _ rfl hkey ?_)
        have hmeas : strLen (.string (M5.bs R2)) < strLen (.string rt) := by
          show (M5.bs R2).size < rt.size
          rw [hrt.out, bs_size, bs_size]
          omega
        have hz4' : w1.heap.size + 2 ≤ w4.heap.size := by omega
        cases hhad : (acc.any fun b => M3.eqB b.name at0.name)
        · have hadd : M5.addT acc at0 = acc ++ [at0] := by rw [M5.addT, hhad]; rfl
          rw [hadd] at hv2
          have hcA : cellsA acc ++ [.string at0.name, .string at0.value] = cellsA (acc ++ [at0]) := by rw [cellsA_append]; rfl
          replace hhas := Lib.hid hhas
          replace hhad := Lib.hid hhad
          replace hcA := Lib.hid hcA
          replace hadd := Lib.hid hadd
          clear y0 y1
          have y0 := (ba4.out.alloc (.cells #[] 116)).cell (i := 0) rfl
          go_upto_region 14 with (at_mapUpdate; refine wpList_mapUpdate_own _ rfl _ _ _ 115 rfl 9 116 keyS Tryz.underlying115 (unitElem (H := Unit)) (w1.heap.size + 1) n _ rfl (hmap4.out.alloc _) (by unfold maxLen; omega) _ _ _ rfl rfl hkey _ [] unitElem_mk ?_; intro w5 hmap5 hgrow5)
          have ba5 := (ba4.out.alloc (.cells #[] 116)).keep (hgrow5.block _ (ba4.out.alloc _).lt (by intro h; have := Option.some.inj h; omega))
          have bz5 := (bz4.out.alloc (.cells #[] 116)).keep (hgrow5.block _ (bz4.out.alloc _).lt (by intro h; have := Option.some.inj h; omega))
          have bx5 := (bx4.out.alloc (.cells #[] 116)).keep (hgrow5.block _ (bx4.out.alloc _).lt (by intro h; have := Option.some.inj h; omega))
          have hown5 := Lib.hid ((hown4.out.alloc (.cells #[] 116)).kept hgrow5 (Or.inr (fun h => by have := (hown4.out.lt _ h).1; omega)))
          have hbW5 := Lib.hid ((hbW4.out.alloc hbW4.out.size (.cells #[] 116)).grown hgrow5 (by have := hbW4.out.size; simp; omega) (fun k hk => by cases hk; omega))
          have hs5 : w4.heap.size + 1 ≤ w5.heap.size := by have := hgrow5.size; simpa using this
          have y0 := ba5.cell (i := 0) rfl
          have y1 := ba5.cell (i := 1) rfl
          obtain ⟨sa, cap, rfl⟩ := own_slice5 hown4.out
          have x2 := bx5.cell (i := 2) rfl
          replace hmap5 := Lib.hid hmap5
          replace hgrow5 := Lib.hid hgrow5
          go_wp2_with (at_builtin; refine wpList_appOne w5 [.string at0.name, .string at0.value] rfl _ _ 39 43 rfl (w1.heap.size + 2) 2 Tryz.underlying39 infoA5 rfl (by omega) _ acc.length (cellsA acc) rfl hown5.out (w5.heap.size) rfl (by rfl) rfl (by simp [Value.oneCell']) (by omega) (by omega) (by omega) ?_; intro gg cap' w6 hown6 hgrow6 hat6; have bx6 := bx5.keep (hgrow6.block _ bx5.lt (fun e => by have := (hown5.out.lt _ e.symm).1; omega)); have bz6 := bz5.keep (hgrow6.block _ bz5.lt (fun e => by have := (hown5.out.lt _ e.symm).1; omega)); have c6 := bx6.cell (i := 2) rfl; have f6 := bx6.free 2)
          have hb6 := hbW5.out.grown hgrow6 hbW5.out.size (fun g hg => by have := (hown5.out.lt g hg).1; omega)
          have hb7 : Below wo.heap.size wo (w6.setCell ⟨w1.heap.size, 2, none⟩ (.slice (some ⟨gg, 0, none⟩) (acc.length + 1) cap')) := hb6.setCell (p := ⟨w1.heap.size, 2, none⟩) (by show wo.heap.size ≤ w1.heap.size; omega) _
          have bz7 := bz6.far (p := ⟨w1.heap.size, 2, none⟩) (by show wo.heap.size ≠ w1.heap.size; omega) (.slice (some ⟨gg, 0, none⟩) (acc.length + 1) cap')
          have bx7 := bx6.set 2 (.slice (some ⟨gg, 0, none⟩) (acc.length + 1) cap')
          have hown7 := own_set (g := w1.heap.size) (j := 2) hown6 (by omega) (.slice (some ⟨gg, 0, none⟩) (acc.length + 1) cap')
          have hmap7 := (hmap5.out.kept hgrow6 (fun h => by have := (hown5.out.lt _ h.symm).1; omega)).setCell (a := ⟨w1.heap.size, 2, none⟩) (by show w1.heap.size + 1 ≠ w1.heap.size; omega) (.slice (some ⟨gg, 0, none⟩) (acc.length + 1) cap')
          have hz6 := hgrow6.size
          rw [hcA.out] at hown7
          rw [← stood_snoc] at hmap7
          go_roundw
          case rel => exact ⟨R2, acc ++ [at0], .slice (some ⟨gg, 0, none⟩) (acc.length + 1) cap', n + 1, by rw [List.length_append]; show acc.length + 1 + R2.length ≤ s.size; omega, rfl, by rw [List.length_append]; show n + 1 ≤ acc.length + 1; omega, bz7, bx7, hmap7, by rw [List.length_append]; exact hown7, hb7, by simp; omega, hv2⟩
          case measure => exact hmeas
        · have hadd : M5.addT acc at0 = acc := by rw [M5.addT, hhad]; rfl
          rw [hadd] at hv2
          replace hhas := Lib.hid hhas
          replace hhad := Lib.hid hhad
          go_wp2_with fail
          go_roundw
          case rel => exact ⟨R2, acc, va, n, by omega, rfl, hn, bz4.out.alloc _, bx4.out.alloc _, hmap4.out.alloc _, hown4.out.alloc _, hbW4.out.alloc hbW4.out.size _, by simp; omega, hv2⟩
          case measure => exact hmeas
end Go.Proofs.YteefodibpjgicaaGreat
