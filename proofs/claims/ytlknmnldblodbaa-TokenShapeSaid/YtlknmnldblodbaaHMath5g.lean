/- A text over joined ones: Math5g. -/
import Derived.Test.YtlknmnldblodbaaH1
import Derived.Test.YtlknmnldblodbaaH2
import Derived.Test.YtlknmnldblodbaaH3
import Derived.Test.YtlknmnldblodbaaH4
import Derived.Test.YtlknmnldblodbaaH5
import Derived.Test.YtlknmnldblodbaaH6
/- Tokens by definitions: a written text is one token of characters. -/
namespace Go.Proofs.Ytlknmnldblodbaa.M5

theorem esc_lt (v : Bool) (c : UInt8) : ∀ x ∈ M2.esc v c, x ≠ 60 := by
  unfold M2.esc
  split
  · decide
  split
  · decide
  split
  · decide
  split
  · decide
  · rename_i h1 h2 h3 h4
    intro x hx
    simp at hx
    subst hx
    exact h2
theorem escape_lt (v : Bool) (l : List UInt8) : ∀ x ∈ M2.escape v l, x ≠ 60 := by
  intro x hx
  obtain ⟨c, _, h⟩ := List.mem_flatMap.1 hx
  exact esc_lt v c x h
theorem plainN_all (l : List UInt8) (h : ∀ x ∈ l, x ≠ 60) : plainN l = l.length := by
  induction l with
  | nil => rfl
  | cons c r ih =>
    have hs : startsB (c :: r) = false := by
      cases hs : startsB (c :: r)
      · rfl
      · obtain ⟨t, ht⟩ := starts_head _ hs
        exact absurd (List.cons.inj ht).1 (h c (by simp))
    rw [plainN, hs, if_neg Bool.false_ne_true, ih (fun x hx => h x (by simp [hx]))]
    rfl
theorem plainN_upto (a b : List UInt8) (h : ∀ x ∈ a, x ≠ 60) : plainN (a ++ b) = a.length + plainN b := by
  have := plainN_skip a.length (a ++ b) (by simp) (fun k hk => by
    cases hs : startsB ((a ++ b).drop k)
    · rfl
    · obtain ⟨t, ht⟩ := starts_head _ hs
      rw [List.drop_append_of_le_length (by omega)] at ht
      rw [List.drop_eq_getElem_cons hk] at ht
      exact absurd (List.cons.inj ht).1 (h _ (List.getElem_mem hk)))
  rw [this]
  congr 2
  simp
theorem escape_ne (v : Bool) (l : List UInt8) (h : l ≠ []) : M2.escape v l ≠ [] := by
  intro e
  have := congrArg M2.decode e
  rw [M2.decode_escape, M2.decode_nil] at this
  exact h this
theorem tokens_written (l : List UInt8) (h : l ≠ []) : tokens (M2.escape false l) = [⟨3, ⟨#[]⟩, [], bs l⟩] := by
  have hne := escape_ne false l h
  have hp := plainN_all _ (escape_lt false l)
  have hs : startsB (M2.escape false l) = false := by
    cases hs : startsB (M2.escape false l)
    · rfl
    · obtain ⟨t, ht⟩ := starts_head _ hs
      exact absurd rfl (escape_lt false l 60 (by rw [ht]; simp))
  rw [tokens_eq, toks_step _ hne hs, hp, List.take_length, List.drop_length, M2.decode_escape, toksR_nil]
  rfl
end Go.Proofs.Ytlknmnldblodbaa.M5

