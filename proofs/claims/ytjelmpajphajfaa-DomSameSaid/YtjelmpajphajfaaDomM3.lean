/- Package dom: Merge. -/
import Derived.Test.YtjelmpajphajfaaDomM2
import Derived.Test.YtjelmpajphajfaaClone3
import Derived.Deep.RegionHeld3
import Derived.Deep.AppendLies
namespace Go.Proofs.Ytjelmpajphajfaa
open Go.RowKit

/-- A clone of one node. -/
theorem domCloneN (S : Nat → Prop) (x : Nd) (va vk : Value) (w : World) (hS : ∀ b, S b → b < w.heap.size) (hx : RepV S w x va vk) (hw : 1 + x.attrs.length + M3.weight x.kids ≤ 1000000) :
    Calls Try.prog 49 #[x.val va vk] w (FreshV x w) :=
  domClone1 S x va vk w hS hx (by omega) (fun W2 h3 h4 => domClone (M3.weight x.kids + 1) S _ x.kids W2 (by omega) (by show M3.weight x.kids ≤ 1000000; omega) h3 h4)

theorem Fresh.nil (w : World) (B : Nat) : Fresh w B (.slice none 0 0) [] := ⟨[], [], World.ownsRow_nil _ _ _ _, OwnC.nil _, Span.nil _ _⟩
theorem Fresh.base {w : World} {B B' : Nat} {v : Value} {l : List Nd} (h : Fresh w B v l) (hb : B' ≤ B) : Fresh w B' v l := by
  obtain ⟨zs, F, h1, h2, h3⟩ := h
  exact ⟨zs, F, own_base h1 (fun g hg => by have := (h1.lt g hg).1; omega), h2, h3.mono hb (Nat.le_refl _)⟩
theorem Fresh.keep {w w' : World} {B : Nat} {v : Value} {l : List Nd} (h : Fresh w B v l) (hk : ∀ b, B ≤ b → b < w.heap.size → w'.heap[b]? = w.heap[b]?) (hz : w.heap.size ≤ w'.heap.size) : Fresh w' B v l := by
  obtain ⟨zs, F, h1, h2, h3⟩ := h
  exact ⟨zs, F, own_keep h1 (fun g hg => hk g (h1.lt g hg).1 (h1.lt g hg).2), OwnC.keep _ _ _ (fun b hb => hk b (h3.2 b (by simp [hb])).1 (h3.2 b (by simp [hb])).2) h2, h3.mono (Nat.le_refl _) hz⟩
/-- 'append(out, x)' behind nodes that the call has made, nothing shared. -/
theorem Fresh.snoc {W w5 : World} {B mid g n cap : Nat} {u : Value} {A : List Nd} {zs : List Value} {F : List Nat} {x : Nd} {va vk : Value} {zs2 : List Value} {F2 : List Nat} (hn : n = A.length + 1)
    (hown5 : w5.ownsRow B 28 5 (.slice (some ⟨g, 0, none⟩) n cap) n (zs ++ x.cells va vk)) (hgrow : W.grownBy w5 u.ownBlock) (hat : u.ownBlock = some g ∨ W.heap.size ≤ g)
    (hA : OwnC W zs A F) (hsp : Span B mid (u.ownBlock.toList ++ F))
    (ha : W.ownsRow 0 44 2 va x.attrs.length (cellsA x.attrs)) (hk : W.ownsRow 0 28 5 vk x.kids.length zs2) (hc : OwnC W zs2 x.kids F2) (hsp2 : Span mid W.heap.size (va.ownBlock.toList ++ (vk.ownBlock.toList ++ F2))) (hBm : B ≤ mid) (hm : mid ≤ W.heap.size) :
    Fresh w5 B (.slice (some ⟨g, 0, none⟩) n cap) (A ++ [x]) := by
  subst hn
  have hall : Span B W.heap.size (u.ownBlock.toList ++ F ++ (va.ownBlock.toList ++ (vk.ownBlock.toList ++ F2))) := Span.append hsp hsp2 hBm hm
  have hg5 := (hown5.lt g rfl)
  have hkeep : ∀ b ∈ F ++ (va.ownBlock.toList ++ (vk.ownBlock.toList ++ F2)), w5.heap[b]? = W.heap[b]? := by
    intro b hb
    refine hgrow.block b (hall.2 b (by rcases List.mem_append.1 hb with h | h <;> simp [h])).2 (fun e => ?_)
    have hnd := hall.1
    rw [List.append_assoc] at hnd
    have := (List.nodup_append.1 hnd).2.2 b (by rw [← e]; simp) b hb
    exact this rfl
  have hgn : g ∉ F ++ (va.ownBlock.toList ++ (vk.ownBlock.toList ++ F2)) := by
    intro hb
    rcases hat with h | h
    · have hnd := hall.1
      rw [List.append_assoc] at hnd
      exact (List.nodup_append.1 hnd).2.2 g (by rw [h]; simp) g hb rfl
    · have := (hall.2 g (by rcases List.mem_append.1 hb with h | h <;> simp [h])).2
      omega
  refine ⟨zs ++ x.cells va vk, F ++ (va.ownBlock.toList ++ (vk.ownBlock.toList ++ F2)), by simpa using hown5, ?_, ?_⟩
  · refine OwnC.append ?_ _ _ _ (OwnC.keep _ _ _ (fun b hb => hkeep b (by simp [hb])) hA)
    exact OwnC.cons_iff.2 ⟨va, vk, zs2, [], F2, [], by simp, own_keep ha (fun b hb => hkeep b (by simp [hb])), own_keep hk (fun b hb => hkeep b (by simp [hb])), by simp, OwnC.keep _ _ _ (fun b hb => hkeep b (by simp [hb])) hc, OwnC.nil _⟩
  · have hs := hgrow.size
    refine ⟨?_, fun b hb => ?_⟩
    · show (g :: (F ++ (va.ownBlock.toList ++ (vk.ownBlock.toList ++ F2)))).Nodup
      refine List.nodup_cons.2 ⟨hgn, ?_⟩
      have hnd := hall.1
      rw [List.append_assoc] at hnd
      exact (List.nodup_append.1 hnd).2.1
    · rcases List.mem_append.1 hb with h | h
      · have : b = g := by simpa [Value.ownBlock] using h
        subst this
        exact hg5
      · have := hall.2 b (by rcases List.mem_append.1 h with h | h <;> simp [h])
        omega

theorem front_le (l : List Nd) : ∀ n, l.length ≤ n → (M3.front l).length ≤ l.length := by
  intro n
  induction n generalizing l with
  | zero => intro h; obtain rfl : l = [] := List.eq_nil_of_length_eq_zero (by omega); rw [M3.front_nil]; exact Nat.le_refl _
  | succ n ih =>
    intro h
    cases l with
    | nil => rw [M3.front_nil]; exact Nat.le_refl _
    | cons x r =>
      cases ht : M3.isText x
      · rw [M3.front_no r ht, List.length_cons, List.length_cons]; have := ih r (by simpa using h); omega
      · rw [M3.front_yes r ht, M3.runT_yes r ht, List.length_cons, List.length_cons, List.drop_succ_cons]
        have h2 : (r.drop (M3.runT r)).length ≤ r.length := by simp
        have := ih (r.drop (M3.runT r)) (by simp at h ⊢; omega)
        omega
end Go.Proofs.Ytjelmpajphajfaa
