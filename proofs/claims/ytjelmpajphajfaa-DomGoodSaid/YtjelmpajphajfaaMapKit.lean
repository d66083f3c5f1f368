/- A map that a call makes by a literal: the insertion at the operation; a look-up with 'ok'; what a row of insertions holds. -/
import Derived.Maps.OwnSet
import Derived.Lib.Hide
import Derived.Test.YtjelmpajphajfaaRows
namespace Go.Proofs.Ytjelmpajphajfaa
open Go.RowKit Go.Maps Go.WideShapes

/-- A map literal's next entry, at the operation. -/
theorem wpList_insert_own {H : Type} {P : Program} (w : World) {ops : Array Oper} {rest : List Oper} {o : Oper} {a : Act} {Q : Exit → Act → World → Prop}
    (hg : o.guard = none) (m x v : Operand) (t : TypeId) (hop : o.op = Op.insert t m x v)
    (k e : TypeId) (K : Keyed P k) (ht : P.underlying t = some (.map k e)) (R : Value → Option (DataW H × List MemPlace)) (b n : Nat) (D : DataW H)
    (hm : a.eval m = .map (some b)) (hown : w.ownsMap P k R b n D) (hn : n < maxLen) (key val : Value) (kl : Lit) (hx : a.eval x = key) (hv : a.eval v = val) (hkey : keyOf P k key = some kl)
    (d : DataW H) (ps : List MemPlace) (hval : R val = some (d, ps))
    (hK : ∀ w', w'.ownsMap P k R b (n + 1) (D.put kl d) → w.grownBy w' (some b) → wpList P ops Q rest (a.put o.dst undef) w') :
    wpList P ops Q (o :: rest) a w := by
  refine wpList_plain hg fun K' hK' => ?_
  obtain ⟨w', hrun, r1, r2⟩ := hown.update K ht hn hkey hval
  unfold Oper.wp
  simp [execOp, hop, hm, hx, hv, hrun, Result.andThen]
  exact hK' _ _ (hK w' r1 r2)

/-- The datum that a row of pairs makes, put in one by one (a later one wins). -/
def rowD (l : List (Lit × DataW Unit)) (D : DataW Unit) : DataW Unit := l.foldl (fun D p => D.put p.1 p.2) D
theorem rowD_isMap : ∀ (l : List (Lit × DataW Unit)) (D : DataW Unit), IsMap D → IsMap (rowD l D)
  | [], _, h => h
  | p :: l, _, h => rowD_isMap l _ (h.put p.1 p.2)
theorem rowD_has : ∀ (l : List (Lit × DataW Unit)) (D : DataW Unit) (k : Lit), IsMap D → (∀ p ∈ l, WideAt.IsKeyLit p.1) → Maps.has (rowD l D) k = (l.any (fun p => p.1.sameKey k) || Maps.has D k)
  | [], _, _, _, _ => by simp [rowD]
  | p :: l, D, k, h, hk => by
    have ih := rowD_has l (D.put p.1 p.2) k (h.put _ _) (fun q hq => hk q (by simp [hq]))
    show Maps.has (rowD l (D.put p.1 p.2)) k = _
    rw [ih, List.any_cons]
    by_cases e : p.1 = k
    · subst e
      rw [has_put_same h (hk p (by simp)), WideAt.sameKey_self (hk p (by simp))]
      simp
    · rw [has_put_other (fun h => e h.symm), sameKey_ne e]
      simp
theorem rowD_other : ∀ (l : List (Lit × DataW Unit)) (D z : DataW Unit) (k : Lit), (∀ p ∈ l, p.1 ≠ k) → (rowD l D).atKey k z = D.atKey k z
  | [], _, _, _, _ => rfl
  | p :: l, D, z, k, h => by
    show (rowD l (D.put p.1 p.2)).atKey k z = _
    rw [rowD_other l _ z k (fun q hq => h q (by simp [hq])), atKey_put_other (fun e => h p (by simp) e.symm)]
theorem rowD_at : ∀ (l : List (Lit × DataW Unit)) (D z : DataW Unit) (p : Lit × DataW Unit), IsMap D → (∀ p ∈ l, WideAt.IsKeyLit p.1) → l.Pairwise (fun p q => p.1 ≠ q.1) → p ∈ l → (rowD l D).atKey p.1 z = p.2
  | [], _, _, _, _, _, _, hp => by simp at hp
  | q :: l, D, z, p, h, hk, hd, hp => by
    obtain ⟨h1, h2⟩ := List.pairwise_cons.1 hd
    show (rowD l (D.put q.1 q.2)).atKey p.1 z = _
    rcases List.mem_cons.1 hp with rfl | hp
    · rw [rowD_other l _ z _ (fun q hq e => h1 q hq e.symm), atKey_put_same h (hk _ (by simp))]
    · exact rowD_at l _ z p (h.put _ _) (fun q hq => hk q (by simp [hq])) h2 hp
theorem ownsMap_below {P : Program} {k : TypeId} {R : Value → Option (DataW Unit × List MemPlace)} {w w' : World} {b n : Nat} {D : DataW Unit} (h : w.ownsMap P k R b n D) (hb : Below w.heap.size w w') : w'.ownsMap P k R b n D :=
  h.kept (row := none) ⟨hb.os, hb.tape, hb.output, hb.size, fun k hk _ => hb.block k hk⟩ (by simp)

/-- 'v, ok := m[k]' of a map to numbers: an equation for the walk. -/
theorem look_ok_int {P : Program} {w : World} {b n : Nat} {D : DataW Unit} {t k e : TypeId} {q : IntKind} (h : w.ownsMap P k (plainElem P e) b n D) (K : Keyed P k) (ht : P.underlying t = some (.map k e)) (he : P.underlying e = some (.int q))
    (hz : (zeroValue e).run P w = .ok (.int q 0) w) {key : Value} {kl : Lit} (hkey : keyOf P k key = some kl) {c : Int} (hc : D.atKey kl (.lit (.int q 0)) = .lit (.int q c)) :
    (Instr.lookup t (.map (some b)) key true).run P w = .ok (.tuple #[.int q c, .bool (Maps.has D kl)]) w := by
  have hw0 : (Lit.int q 0).wf = true := by cases q <;> decide
  obtain ⟨v, ps, hrun, hv⟩ := h.look_ok K ht hz (plainElem_int he hw0) hkey
  obtain ⟨c', rfl, h2, _⟩ := plainElem_int_inv he hv
  simp only [Prod.mk.injEq] at h2
  rw [h2.1] at hc
  cases hc
  exact hrun
end Go.Proofs.Ytjelmpajphajfaa
