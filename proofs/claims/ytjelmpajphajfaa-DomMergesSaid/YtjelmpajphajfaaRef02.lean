/- The document's answers of layer 2: names, digits, numbers, the reference at the beginning. -/
import Derived.Test.YtjelmpajphajfaaStrs
import Derived.Test.YtjelmpajphajfaaKit2
import Derived.Test.YtjelmpajphajfaaMath2
import Derived.Deep.QuietTactic
import Derived.BigQuiet
import Derived.IntWalk
namespace Go.Proofs.Ytjelmpajphajfaa
open Go.RowKit

def namesV : List Value := M2.tbl.map fun p => .string ⟨p.1.toArray⟩
def codesV : List Value := M2.tbl.map fun p => .int .i64 (p.2 : Int)

/-- A digit of a base, as it is told there. -/
def digN (b : Nat) (r : Int) : Int := if (b : Int) ≤ M2.digZ r then -1 else M2.digZ r

theorem digN_no {b : Nat} {c : UInt8} (h : M2.isD b c = false) : digN b c.toNat < 0 := by
  unfold digN
  have := M2.isD_no h
  split <;> omega
theorem digN_yes {b : Nat} {c : UInt8} (h : M2.isD b c = true) : digN b c.toNat = M2.digZ c.toNat ∧ 0 ≤ digN b c.toNat ∧ digN b c.toNat < b := by
  unfold M2.isD at h
  have := of_decide_eq_true h
  unfold digN
  rw [if_neg (by omega)]
  omega

/-- What a call answers of a number that may be none. -/
def ansB (o : Option Int) : Value := .tuple #[.int .i64 (o.getD 0), .bool o.isSome]
theorem ansB_mk (o : Option Int) : ∃ x y, ansB o = .tuple #[.int .i64 x, .bool y] := ⟨_, _, rfl⟩


end Go.Proofs.Ytjelmpajphajfaa
