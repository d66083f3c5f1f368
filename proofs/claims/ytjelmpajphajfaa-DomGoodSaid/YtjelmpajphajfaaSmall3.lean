/- Layer 3: few nodes are few, and light. -/
import Derived.Test.YtjelmpajphajfaaCut
namespace Go.Proofs.Ytjelmpajphajfaa
open Go.RowKit

theorem few_size (s : ByteArray) : (M3.few s).size ≤ 30 := by
  unfold M3.few
  split
  · simp [ByteArray.size_extract]; omega
  · omega
theorem cut_weight (l : List Nd) (m : Nat) : M3.weight (M3.cut l m).1 + 6 * (M3.cut l m).2 ≤ 6 * m := by
  induction l using Nd.ind generalizing m with
  | h0 => rw [M3.cut_nil, M3.weight_nil]; simp
  | h1 k n a t ks r ih1 ih2 =>
    cases m with
    | zero => rw [M3.cut_zero, M3.weight_nil]; simp
    | succ m =>
      rw [M3.cut_cons, M3.weight_cons]
      have h1 := ih1 m
      have h2 := ih2 (M3.cut ks m).2
      simp only [Nd.kids, Nd.attrs]
      have h3 : ((a.take 5).map M3.fewA).length ≤ 5 := by simp; omega
      omega
theorem fewN_weight (l : List Nd) : M3.weight (fewN l) ≤ 240 := by
  have := cut_weight l 40
  unfold fewN
  omega
theorem cut_fit (l : List Nd) (m : Nat) (hm : m ≤ 1000) : FitN (M3.cut l m).1 := by
  induction l using Nd.ind generalizing m with
  | h0 => rw [M3.cut_nil]; exact fitN_nil
  | h1 k n a t ks r ih1 ih2 =>
    cases m with
    | zero => rw [M3.cut_zero]; exact fitN_nil
    | succ m =>
      rw [M3.cut_cons]
      have h1 := cut_weight ks m
      have h3 : ((a.take 5).map M3.fewA).length ≤ 5 := by simp; omega
      refine fitN_cons.2 ⟨⟨Nat.le_trans (few_size _) (by omega), Nat.le_trans (few_size _) (by omega), ?_, ?_⟩, ih1 m (by omega), ih2 _ (by have := M3.cut_le ks m; simp only [Nd.kids]; omega)⟩
      · intro b hb
        simp only [Nd.attrs] at hb
        obtain ⟨c, _, rfl⟩ := List.mem_map.1 hb
        exact ⟨Nat.le_trans (few_size _) (by omega), Nat.le_trans (few_size _) (by omega)⟩
      · simp only [Nd.attrs, Nd.kids]
        omega
theorem fewN_fit (l : List Nd) : FitN (fewN l) := cut_fit l 40 (by omega)
theorem fitN_append {a b : List Nd} : FitN (a ++ b) ↔ FitN a ∧ FitN b := by
  induction a with
  | nil => simp [fitN_nil]
  | cons x r ih => rw [List.cons_append, fitN_cons, fitN_cons, ih]; simp [and_assoc]
theorem fitN_take {l : List Nd} (h : FitN l) (k : Nat) : FitN (l.take k) := (fitN_append.1 (by rw [List.take_append_drop]; exact h : FitN (l.take k ++ l.drop k))).1
theorem fitN_drop {l : List Nd} (h : FitN l) (k : Nat) : FitN (l.drop k) := (fitN_append.1 (by rw [List.take_append_drop]; exact h : FitN (l.take k ++ l.drop k))).2
end Go.Proofs.Ytjelmpajphajfaa
