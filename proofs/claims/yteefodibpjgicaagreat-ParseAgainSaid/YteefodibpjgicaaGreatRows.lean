/-
  NARROWER THAN 'FOR EVERY INPUT', by the rows' own cells (each row's printed sentence says how): ParseAgain: loops · ParseKeeps: loops · ParseJoins: loops.
  DERIVED. THE GIVEN ROWS OF THIS SEAT. 6 by the template 'for every input the law returns true; each argument reads behind the call as it read before'; 0 by the template 'total and deterministic' (their statements: YteefodibpjgicaaGreatTotals.lean).
  GIVEN WITH THE SEED: the statements are not yours to turn. If you find one false, say at which input.
  Laid BY PROGRAM, IN A SANDBOX (cutbox-rows.mjs): the forced cells as the released guide's own fill.sh prints them over the translation f1a80c9cda1e8db7… (all of the seat's roots in one cut). By AI agents, Wed Nov 11 2026. No macro, syntax, notation, axiom, sorry.
-/
import Derived.Test.YteefodibpjgicaaGreatChecked
import GoSem.Claim
import GoSem.ClaimJoined
import GoSem.ClaimMapViews
import Derived.JoinedTies
import Derived.KernelRfl
namespace Go.Proofs.YteefodibpjgicaaGreat
/- THE CELL 'sum', in the pinned program and in every row, IS THE sha256 OF THE DUMP (.gsa) THAT YteefodibpjgicaaGreatProg.lean LOADS. Nothing in Lean hashes anything: it is a label: what it is worth is what the hold of that sum in a sandbox is worth. -/
noncomputable def Tryz.pinned : Pinned := { name := "yteefodibpjgicaagreat", sum := "f1a80c9cda1e8db7f46b6a17c3387cd32f655578e628f8ee7164cbf165c2cc5d", checked := Tryz.checked }
namespace Rows
def none {H : Type} : Left H := { results := [], args := [] }

/-- 'strainerlaw08.ParseBytes': WHATEVER THE INPUT: true; the input reads as it did. -/
def parseBytesSpec : ChangeSpec := { name := "parseBytes", fn := fun _ => fun
  | [d] => { results := [.lit (.bool true)], args := [d] }
  | _ => none }
def parseBytesRow : OpenClaim := { program := "yteefodibpjgicaagreat", sum := "f1a80c9cda1e8db7f46b6a17c3387cd32f655578e628f8ee7164cbf165c2cc5d", func := "strainer/strainerlaw08.ParseBytes", spec := "parseBytes", inPlace := ["internal/bytealg.IndexByteString", "internal/bytealg.IndexString", "internal/abi.NoEscape"], unfollowed := true, recurses := true, named := ["internal/bytealg.MaxLen"], apart := false }
def ParseBytesSaid : Prop := parseBytesRow.holds Tryz.pinned (OpenSpec.ofChange parseBytesSpec)

/-- ITS FALSE NEIGHBOUR: 'it returns false'. Refute it at one input. -/
def parseBytesWrong : ChangeSpec := { name := "parseBytes", fn := fun _ => fun
  | [d] => { results := [.lit (.bool false)], args := [d] }
  | _ => none }
def ParseBytesWrongFalsely : Prop := parseBytesRow.holds Tryz.pinned (OpenSpec.ofChange parseBytesWrong)

/-- 'strainerlaw08.ParseAgain': WHATEVER THE INPUT: true; the input reads as it did. -/
def parseAgainSpec : ChangeSpec := { name := "parseAgain", fn := fun _ => fun
  | [d] => { results := [.lit (.bool true)], args := [d] }
  | _ => none }
def parseAgainRow : OpenClaim := { program := "yteefodibpjgicaagreat", sum := "f1a80c9cda1e8db7f46b6a17c3387cd32f655578e628f8ee7164cbf165c2cc5d", func := "strainer/strainerlaw08.ParseAgain", spec := "parseAgain", inPlace := ["internal/bytealg.IndexByteString", "internal/bytealg.IndexString", "internal/abi.NoEscape"], unfollowed := true, recurses := true, named := ["internal/bytealg.MaxLen"], loops := true, apart := false }
def ParseAgainSaid : Prop := parseAgainRow.holds Tryz.pinned (OpenSpec.ofChange parseAgainSpec)

/-- ITS FALSE NEIGHBOUR: 'it returns false'. Refute it at one input. -/
def parseAgainWrong : ChangeSpec := { name := "parseAgain", fn := fun _ => fun
  | [d] => { results := [.lit (.bool false)], args := [d] }
  | _ => none }
def ParseAgainWrongFalsely : Prop := parseAgainRow.holds Tryz.pinned (OpenSpec.ofChange parseAgainWrong)

/-- 'strainerlaw08.ParseKeeps': WHATEVER THE INPUT: true; the input reads as it did. -/
def parseKeepsSpec : ChangeSpec := { name := "parseKeeps", fn := fun _ => fun
  | [d] => { results := [.lit (.bool true)], args := [d] }
  | _ => none }
def parseKeepsRow : OpenClaim := { program := "yteefodibpjgicaagreat", sum := "f1a80c9cda1e8db7f46b6a17c3387cd32f655578e628f8ee7164cbf165c2cc5d", func := "strainer/strainerlaw08.ParseKeeps", spec := "parseKeeps", inPlace := ["internal/bytealg.IndexByteString", "internal/bytealg.IndexString", "internal/abi.NoEscape"], unfollowed := true, recurses := true, named := ["internal/bytealg.MaxLen"], loops := true, apart := false }
def ParseKeepsSaid : Prop := parseKeepsRow.holds Tryz.pinned (OpenSpec.ofChange parseKeepsSpec)

/-- ITS FALSE NEIGHBOUR: 'it returns false'. Refute it at one input. -/
def parseKeepsWrong : ChangeSpec := { name := "parseKeeps", fn := fun _ => fun
  | [d] => { results := [.lit (.bool false)], args := [d] }
  | _ => none }
def ParseKeepsWrongFalsely : Prop := parseKeepsRow.holds Tryz.pinned (OpenSpec.ofChange parseKeepsWrong)

/-- 'strainerlaw08.ParseMay': WHATEVER THE INPUT: true; the input reads as it did. -/
def parseMaySpec : ChangeSpec := { name := "parseMay", fn := fun _ => fun
  | [d] => { results := [.lit (.bool true)], args := [d] }
  | _ => none }
def parseMayRow : OpenClaim := { program := "yteefodibpjgicaagreat", sum := "f1a80c9cda1e8db7f46b6a17c3387cd32f655578e628f8ee7164cbf165c2cc5d", func := "strainer/strainerlaw08.ParseMay", spec := "parseMay", inPlace := ["internal/bytealg.IndexByteString", "internal/bytealg.IndexString", "internal/abi.NoEscape"], unfollowed := true, recurses := true, named := ["internal/bytealg.MaxLen"], apart := false }
def ParseMaySaid : Prop := parseMayRow.holds Tryz.pinned (OpenSpec.ofChange parseMaySpec)

/-- ITS FALSE NEIGHBOUR: 'it returns false'. Refute it at one input. -/
def parseMayWrong : ChangeSpec := { name := "parseMay", fn := fun _ => fun
  | [d] => { results := [.lit (.bool false)], args := [d] }
  | _ => none }
def ParseMayWrongFalsely : Prop := parseMayRow.holds Tryz.pinned (OpenSpec.ofChange parseMayWrong)

/-- 'strainerlaw08.ParseSettles': WHATEVER THE INPUT: true; the input reads as it did. -/
def parseSettlesSpec : ChangeSpec := { name := "parseSettles", fn := fun _ => fun
  | [d] => { results := [.lit (.bool true)], args := [d] }
  | _ => none }
def parseSettlesRow : OpenClaim := { program := "yteefodibpjgicaagreat", sum := "f1a80c9cda1e8db7f46b6a17c3387cd32f655578e628f8ee7164cbf165c2cc5d", func := "strainer/strainerlaw08.ParseSettles", spec := "parseSettles", inPlace := ["internal/abi.NoEscape", "internal/bytealg.IndexByteString", "internal/bytealg.IndexString"], unfollowed := true, recurses := true, named := ["internal/bytealg.MaxLen"], apart := false }
def ParseSettlesSaid : Prop := parseSettlesRow.holds Tryz.pinned (OpenSpec.ofChange parseSettlesSpec)

/-- ITS FALSE NEIGHBOUR: 'it returns false'. Refute it at one input. -/
def parseSettlesWrong : ChangeSpec := { name := "parseSettles", fn := fun _ => fun
  | [d] => { results := [.lit (.bool false)], args := [d] }
  | _ => none }
def ParseSettlesWrongFalsely : Prop := parseSettlesRow.holds Tryz.pinned (OpenSpec.ofChange parseSettlesWrong)

/-- 'strainerlaw08.ParseJoins': WHATEVER THE INPUT: true; the input reads as it did. -/
def parseJoinsSpec : ChangeSpec := { name := "parseJoins", fn := fun _ => fun
  | [d1, d2] => { results := [.lit (.bool true)], args := [d1, d2] }
  | _ => none }
def parseJoinsRow : OpenClaim := { program := "yteefodibpjgicaagreat", sum := "f1a80c9cda1e8db7f46b6a17c3387cd32f655578e628f8ee7164cbf165c2cc5d", func := "strainer/strainerlaw08.ParseJoins", spec := "parseJoins", inPlace := ["internal/bytealg.IndexByteString", "internal/bytealg.IndexString", "internal/abi.NoEscape"], unfollowed := true, recurses := true, named := ["internal/bytealg.MaxLen"], loops := true, apart := false }
def ParseJoinsSaid : Prop := parseJoinsRow.holds Tryz.pinned (OpenSpec.ofChange parseJoinsSpec)

/-- ITS FALSE NEIGHBOUR: 'it returns false'. Refute it at one input. -/
def parseJoinsWrong : ChangeSpec := { name := "parseJoins", fn := fun _ => fun
  | [d1, d2] => { results := [.lit (.bool false)], args := [d1, d2] }
  | _ => none }
def ParseJoinsWrongFalsely : Prop := parseJoinsRow.holds Tryz.pinned (OpenSpec.ofChange parseJoinsWrong)

/- THE SECOND FORM. 'bulk': how many values and letters a reading holds, each counted each time it is reached (what is shared counts as often as it is met; a slice's spare places count too). A statement '..UptoSaid' is the law's where the arguments, and the package variables that the reading takes, are together of bulk at most 1048576: NARROWER than '..Said'. Prove '..Said' where nothing that the law and all that it calls make is longer than what came in: it says more and counts as full. Else prove '..UptoSaid'. A law counts once. -/
mutual
def uptoBulk {H : Type} : DataW H → Nat
  | .lit (.string bytes) => bytes.length + 1
  | .lit _ => 1
  | .nil => 1
  | .ptr d => uptoBulk d + 1
  | .slice elems spare => uptoBulkAll elems + uptoBulkAll spare + 1
  | .agg parts => uptoBulkAll parts + 1
  | .iface _ d => uptoBulk d + 1
  | .map entries => uptoBulkEntries entries + 1
  | .held _ => 1
def uptoBulkAll {H : Type} : List (DataW H) → Nat
  | [] => 0
  | d :: r => uptoBulk d + uptoBulkAll r
def uptoBulkEntries {H : Type} : List (Lit × DataW H) → Nat
  | [] => 0
  | x :: r => uptoBulkEntry x + uptoBulkEntries r
def uptoBulkEntry {H : Type} : Lit × DataW H → Nat
  | (.string bytes, d) => bytes.length + uptoBulk d + 1
  | (_, d) => uptoBulk d + 1
 end
def uptoSmall : (H : Type) → List (DataW H) → Bool := fun _ ds => decide (uptoBulkAll ds ≤ 1048576)
def OpenSpec.upto (s : _root_.Go.ChangeSpec) : _root_.Go.OpenSpec := { _root_.Go.OpenSpec.ofChange s with cond := some uptoSmall }

/-- 'strainerlaw08.ParseBytes', WHERE WHAT IT READS IS OF BULK AT MOST 1048576: true; the input reads as it did. -/
def parseBytesUptoRow : OpenClaim := { program := "yteefodibpjgicaagreat", sum := "f1a80c9cda1e8db7f46b6a17c3387cd32f655578e628f8ee7164cbf165c2cc5d", func := "strainer/strainerlaw08.ParseBytes", spec := "parseBytes", inPlace := ["internal/bytealg.IndexByteString", "internal/bytealg.IndexString", "internal/abi.NoEscape"], unfollowed := true, recurses := true, named := ["internal/bytealg.MaxLen"], apart := false, narrowed := true }
def ParseBytesUptoSaid : Prop := parseBytesUptoRow.holds Tryz.pinned (OpenSpec.upto parseBytesSpec)

/-- 'strainerlaw08.ParseAgain', WHERE WHAT IT READS IS OF BULK AT MOST 1048576: true; the input reads as it did. -/
def parseAgainUptoRow : OpenClaim := { program := "yteefodibpjgicaagreat", sum := "f1a80c9cda1e8db7f46b6a17c3387cd32f655578e628f8ee7164cbf165c2cc5d", func := "strainer/strainerlaw08.ParseAgain", spec := "parseAgain", inPlace := ["internal/bytealg.IndexByteString", "internal/bytealg.IndexString", "internal/abi.NoEscape"], unfollowed := true, recurses := true, named := ["internal/bytealg.MaxLen"], loops := true, apart := false, narrowed := true }
def ParseAgainUptoSaid : Prop := parseAgainUptoRow.holds Tryz.pinned (OpenSpec.upto parseAgainSpec)

/-- 'strainerlaw08.ParseKeeps', WHERE WHAT IT READS IS OF BULK AT MOST 1048576: true; the input reads as it did. -/
def parseKeepsUptoRow : OpenClaim := { program := "yteefodibpjgicaagreat", sum := "f1a80c9cda1e8db7f46b6a17c3387cd32f655578e628f8ee7164cbf165c2cc5d", func := "strainer/strainerlaw08.ParseKeeps", spec := "parseKeeps", inPlace := ["internal/bytealg.IndexByteString", "internal/bytealg.IndexString", "internal/abi.NoEscape"], unfollowed := true, recurses := true, named := ["internal/bytealg.MaxLen"], loops := true, apart := false, narrowed := true }
def ParseKeepsUptoSaid : Prop := parseKeepsUptoRow.holds Tryz.pinned (OpenSpec.upto parseKeepsSpec)

/-- 'strainerlaw08.ParseMay', WHERE WHAT IT READS IS OF BULK AT MOST 1048576: true; the input reads as it did. -/
def parseMayUptoRow : OpenClaim := { program := "yteefodibpjgicaagreat", sum := "f1a80c9cda1e8db7f46b6a17c3387cd32f655578e628f8ee7164cbf165c2cc5d", func := "strainer/strainerlaw08.ParseMay", spec := "parseMay", inPlace := ["internal/bytealg.IndexByteString", "internal/bytealg.IndexString", "internal/abi.NoEscape"], unfollowed := true, recurses := true, named := ["internal/bytealg.MaxLen"], apart := false, narrowed := true }
def ParseMayUptoSaid : Prop := parseMayUptoRow.holds Tryz.pinned (OpenSpec.upto parseMaySpec)

/-- 'strainerlaw08.ParseSettles', WHERE WHAT IT READS IS OF BULK AT MOST 1048576: true; the input reads as it did. -/
def parseSettlesUptoRow : OpenClaim := { program := "yteefodibpjgicaagreat", sum := "f1a80c9cda1e8db7f46b6a17c3387cd32f655578e628f8ee7164cbf165c2cc5d", func := "strainer/strainerlaw08.ParseSettles", spec := "parseSettles", inPlace := ["internal/abi.NoEscape", "internal/bytealg.IndexByteString", "internal/bytealg.IndexString"], unfollowed := true, recurses := true, named := ["internal/bytealg.MaxLen"], apart := false, narrowed := true }
def ParseSettlesUptoSaid : Prop := parseSettlesUptoRow.holds Tryz.pinned (OpenSpec.upto parseSettlesSpec)

/-- 'strainerlaw08.ParseJoins', WHERE WHAT IT READS IS OF BULK AT MOST 1048576: true; the input reads as it did. -/
def parseJoinsUptoRow : OpenClaim := { program := "yteefodibpjgicaagreat", sum := "f1a80c9cda1e8db7f46b6a17c3387cd32f655578e628f8ee7164cbf165c2cc5d", func := "strainer/strainerlaw08.ParseJoins", spec := "parseJoins", inPlace := ["internal/bytealg.IndexByteString", "internal/bytealg.IndexString", "internal/abi.NoEscape"], unfollowed := true, recurses := true, named := ["internal/bytealg.MaxLen"], loops := true, apart := false, narrowed := true }
def ParseJoinsUptoSaid : Prop := parseJoinsUptoRow.holds Tryz.pinned (OpenSpec.upto parseJoinsSpec)

end Rows
end Go.Proofs.YteefodibpjgicaaGreat
