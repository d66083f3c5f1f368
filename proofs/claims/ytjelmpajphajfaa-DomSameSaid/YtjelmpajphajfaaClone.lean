/- Package dom: clones. -/
import Derived.Test.YtjelmpajphajfaaCut
import Derived.Laws.MakeOwn
import Derived.Laws.Entries
namespace Go.Proofs.Ytjelmpajphajfaa
open Go.RowKit

/-- Nodes that a call has made, each row a block of its own, and F the blocks: none stands twice. -/
def OwnC (w : World) : List Value → List Nd → List Nat → Prop
  | xs, [], F => xs = [] ∧ F = []
  | xs, .mk k n ats t ks :: r, F => ∃ va vk zs ys F1 F2, xs = .int .i64 k :: .string n :: va :: .string t :: vk :: ys ∧ w.ownsRow 0 44 2 va ats.length (cellsA ats) ∧ w.ownsRow 0 28 5 vk ks.length zs ∧
      F = (va.ownBlock.toList ++ (vk.ownBlock.toList ++ F1)) ++ F2 ∧ OwnC w zs ks F1 ∧ OwnC w ys r F2
termination_by _ l _ => SizeOf.sizeOf l
theorem OwnC.cons_iff {w : World} {xs : List Value} {x : Nd} {r : List Nd} {F : List Nat} :
    OwnC w xs (x :: r) F ↔ ∃ va vk zs ys F1 F2, xs = x.cells va vk ++ ys ∧ w.ownsRow 0 44 2 va x.attrs.length (cellsA x.attrs) ∧ w.ownsRow 0 28 5 vk x.kids.length zs ∧
      F = (va.ownBlock.toList ++ (vk.ownBlock.toList ++ F1)) ++ F2 ∧ OwnC w zs x.kids F1 ∧ OwnC w ys r F2 := by cases x; rw [OwnC]; rfl
theorem OwnC.nil (w : World) : OwnC w [] [] [] := by rw [OwnC]; exact ⟨rfl, rfl⟩
theorem OwnC.keep {w w' : World} (l : List Nd) : ∀ (xs : List Value) (F : List Nat), (∀ b ∈ F, w'.heap[b]? = w.heap[b]?) → OwnC w xs l F → OwnC w' xs l F := by
  induction l using Nd.ind with
  | h0 => intro xs F _ h; rw [OwnC] at h ⊢; exact h
  | h1 k n ats t ks r ih1 ih2 =>
    intro xs F hk h
    obtain ⟨va, vk, zs, ys, F1, F2, h1, h2, h3, rfl, h5, h6⟩ := OwnC.cons_iff.1 h
    refine OwnC.cons_iff.2 ⟨va, vk, zs, ys, F1, F2, h1, own_keep h2 (fun g hg => hk g (by simp [hg])), own_keep h3 (fun g hg => hk g (by simp [hg])), rfl, ih1 _ _ (fun b hb => hk b (by simp [hb])) h5, ih2 _ _ (fun b hb => hk b (by simp [hb])) h6⟩
theorem OwnC.append {w : World} {m : List Nd} {ys : List Value} {G : List Nat} (h : OwnC w ys m G) (l : List Nd) : ∀ (xs : List Value) (F : List Nat), OwnC w xs l F → OwnC w (xs ++ ys) (l ++ m) (F ++ G) := by
  induction l using Nd.ind with
  | h0 => intro xs F h'; rw [OwnC] at h'; obtain ⟨rfl, rfl⟩ := h'; exact h
  | h1 k n ats t ks r _ ih2 =>
    intro xs F h'
    obtain ⟨va, vk, zs, ys', F1, F2, rfl, h2, h3, rfl, h5, h6⟩ := OwnC.cons_iff.1 h'
    exact OwnC.cons_iff.2 ⟨va, vk, zs, ys' ++ ys, F1, F2 ++ G, by rw [List.append_assoc], h2, h3, by simp, h5, ih2 _ _ h6⟩
theorem OwnC.len {w : World} (l : List Nd) : ∀ (xs : List Value) (F : List Nat), OwnC w xs l F → xs.length = l.length * 5 := by
  induction l using Nd.ind with
  | h0 => intro xs F h; rw [OwnC] at h; rw [h.1]; rfl
  | h1 k n ats t ks r _ ih2 =>
    intro xs F h
    obtain ⟨va, vk, zs, ys, F1, F2, rfl, h2, h3, rfl, h5, h6⟩ := OwnC.cons_iff.1 h
    have := ih2 _ _ h6
    simp
    omega
theorem OwnC.rep {w : World} (l : List Nd) : ∀ (xs : List Value) (F : List Nat), OwnC w xs l F → RepC (· ∈ F) w xs l := by
  induction l using Nd.ind with
  | h0 => intro xs F h; rw [OwnC] at h; rw [RepC]; exact h.1
  | h1 k n ats t ks r ih1 ih2 =>
    intro xs F h
    obtain ⟨va, vk, zs, ys, F1, F2, rfl, h2, h3, rfl, h5, h6⟩ := OwnC.cons_iff.1 h
    refine RepC.cons_iff.2 ⟨va, vk, ys, rfl, Row.own h2 (fun g hg => by simp [hg]), ⟨zs, Row.own h3 (fun g hg => by simp [hg]), RepC.mono (fun b hb => by simp [hb]) _ _ (ih1 _ _ h5)⟩, RepC.mono (fun b hb => by simp [hb]) _ _ (ih2 _ _ h6)⟩
/-- Blocks between two numbers, none twice. -/
def Span (lo hi : Nat) (F : List Nat) : Prop := F.Nodup ∧ ∀ b ∈ F, lo ≤ b ∧ b < hi
theorem Span.nil (lo hi : Nat) : Span lo hi [] := ⟨List.nodup_nil, fun b h => by cases h⟩
theorem Span.append {lo mid hi : Nat} {F G : List Nat} (hF : Span lo mid F) (hG : Span mid hi G) (h1 : lo ≤ mid) (h2 : mid ≤ hi) : Span lo hi (F ++ G) := by
  refine ⟨List.nodup_append.2 ⟨hF.1, hG.1, fun a ha b hb e => by have h3 := (hF.2 a ha).2; have h4 := (hG.2 b hb).1; omega⟩, fun b hb => ?_⟩
  rcases List.mem_append.1 hb with hb | hb
  · have := hF.2 b hb; omega
  · have := hG.2 b hb; omega
theorem Span.mono {lo lo' hi hi' : Nat} {F : List Nat} (hF : Span lo hi F) (h1 : lo' ≤ lo) (h2 : hi ≤ hi') : Span lo' hi' F := ⟨hF.1, fun b hb => by have := hF.2 b hb; omega⟩
theorem Span.own {w : World} {B : Nat} {e : TypeId} {k n : Nat} {v : Value} {xs : List Value} (h : w.ownsRow B e k v n xs) : Span B w.heap.size v.ownBlock.toList := by
  refine ⟨by cases v.ownBlock <;> simp, fun b hb => ?_⟩
  have : v.ownBlock = some b := by cases hv : v.ownBlock <;> simp [hv] at hb ⊢; exact hb.symm
  exact h.lt b this

/-- What a call has made and hands back, with all that stands in it, nothing shared. -/
def Fresh (w' : World) (B : Nat) (v : Value) (l : List Nd) : Prop := ∃ zs F, w'.ownsRow B 28 5 v l.length zs ∧ OwnC w' zs l F ∧ Span B w'.heap.size (v.ownBlock.toList ++ F)
theorem Fresh.rep {w' : World} {B : Nat} {v : Value} {l : List Nd} (h : Fresh w' B v l) : RepN (fun b => B ≤ b ∧ b < w'.heap.size) w' v l := by
  obtain ⟨zs, F, h1, h2, h3⟩ := h
  exact ⟨zs, Row.own h1 (fun g hg => h1.lt g hg), RepC.mono (fun b hb => h3.2 b (by simp [hb])) _ _ (OwnC.rep _ _ _ h2)⟩
def FreshPost (l : List Nd) (w : World) (e : Ending) (w' : World) : Prop := ∃ v', e = .returned v' ∧ Fresh w' w.heap.size v' l ∧ Below w.heap.size w w'
/-- A node by value, its rows its own. -/
def FreshV (x : Nd) (w : World) (e : Ending) (w' : World) : Prop := ∃ va vk zs F, e = .returned (x.val va vk) ∧ w'.ownsRow w.heap.size 44 2 va x.attrs.length (cellsA x.attrs) ∧ w'.ownsRow w.heap.size 28 5 vk x.kids.length zs ∧ OwnC w' zs x.kids F ∧ Span w.heap.size w'.heap.size (va.ownBlock.toList ++ (vk.ownBlock.toList ++ F)) ∧ Below w.heap.size w w'
end Go.Proofs.Ytjelmpajphajfaa
