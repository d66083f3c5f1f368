/- A node's own error by its fields; more plain facts on nodes. -/
import Derived.Test.YtjelmpajphajfaaMath3
namespace Go.Proofs.Ytjelmpajphajfaa
namespace M3
/-! ### The fields, one by one -/
def plainF (n : ByteArray) (ats : List Att) (ks : List Nd) : Bool := nilB n && ats.isEmpty && ks.isEmpty
def kindlyF (k : Int) (n : ByteArray) (ats : List Att) (t : ByteArray) (ks : List Nd) : Bool := if k = 1 then nilB t else if k = 2 ∨ k = 3 then plainF n ats ks else false
def elemF (n : ByteArray) (ats : List Att) : Int := if namedB n.data.toList then (if namesE [] ats = 0 then valuesE ats else namesE [] ats) else 4
def oneF (k : Int) (n : ByteArray) (ats : List Att) (t : ByteArray) (ks : List Nd) (p : Bool) : Int :=
  if kindlyF k n ats t ks then (if k = 1 then elemF n ats else if M1.isB t.data.toList && !(decide (k = 2) && (nilB t || p)) then 0 else 2) else 7
theorem oneE_mk (k : Int) (n : ByteArray) (ats : List Att) (t : ByteArray) (ks : List Nd) (p : Bool) : oneE (.mk k n ats t ks) p = oneF k n ats t ks p := by
  unfold oneE oneF kindlyF
  show (if k = 1 then elemE _ else if k = 2 then (if plainF n ats ks then (if M1.isB t.data.toList && !(nilB t || p) then 0 else 2) else 7) else if k = 3 then (if plainF n ats ks then (if M1.isB t.data.toList then 0 else 2) else 7) else 7) = _
  by_cases h1 : k = 1
  · rw [if_pos h1, if_pos h1, if_pos h1]
    rfl
  by_cases h2 : k = 2
  · rw [if_neg h1, if_pos h2, if_neg h1, if_pos (Or.inl h2), if_neg h1, decide_eq_true h2, Bool.true_and]
  by_cases h3 : k = 3
  · rw [if_neg h1, if_neg h2, if_pos h3, if_neg h1, if_pos (Or.inr h3), if_neg h1, decide_eq_false h2, Bool.false_and, Bool.not_false, Bool.and_true]
  · have hno : ¬ (k = 2 ∨ k = 3) := fun h => h.elim h2 h3
    rw [if_neg h1, if_neg h2, if_neg h3, if_neg h1, if_neg hno]
    rfl
end M3
end Go.Proofs.Ytjelmpajphajfaa
