/-
  No cell of these rows narrows 'for every input' (looked for: loops, veiled, ifaces, maps, wideKeys, modest, calm, conditions, laid).
  DERIVED. THE GIVEN ROWS OF THIS SEAT. 7 by the template 'for every input the law returns true; each argument reads behind the call as it read before'; 0 by the template 'total and deterministic' (their statements: YtmnbmdkoljekpaaTotals.lean).
  GIVEN WITH THE SEED: the statements are not yours to turn. If you find one false, say at which input.
  Laid BY PROGRAM, IN A SANDBOX (cutbox-rows.mjs): the forced cells as the released guide's own fill.sh prints them over the translation 3965da00b367a090… (all of the seat's roots in one cut). By AI agents, Wed Nov 11 2026. No macro, syntax, notation, axiom, sorry.
-/
import Derived.Test.YtmnbmdkoljekpaaChecked
import GoSem.Claim
import GoSem.ClaimJoined
import GoSem.ClaimMapViews
import Derived.JoinedTies
import Derived.KernelRfl
namespace Go.Proofs.Ytmnbmdkoljekpaa
/- THE CELL 'sum', in the pinned program and in every row, IS THE sha256 OF THE DUMP (.gsa) THAT YtmnbmdkoljekpaaProg.lean LOADS. Nothing in Lean hashes anything: it is a label: what it is worth is what the hold of that sum in a sandbox is worth. -/
noncomputable def Try.pinned : Pinned := { name := "ytmnbmdkoljekpaa", sum := "3965da00b367a0904d7320b512230cb4d43004f8dbaa5bdb79289b18b8912cee", checked := Try.checked }
namespace Rows
def none {H : Type} : Left H := { results := [], args := [] }

/-- 'strainerlaw01.UtfRunes': WHATEVER THE INPUT: true; the input reads as it did. -/
def utfRunesSpec : ChangeSpec := { name := "utfRunes", fn := fun _ => fun
  | [d] => { results := [.lit (.bool true)], args := [d] }
  | _ => none }
def utfRunesRow : OpenClaim := { program := "ytmnbmdkoljekpaa", sum := "3965da00b367a0904d7320b512230cb4d43004f8dbaa5bdb79289b18b8912cee", func := "strainer/strainerlaw01.UtfRunes", spec := "utfRunes", inPlace := ["internal/abi.NoEscape"], apart := false }
def UtfRunesSaid : Prop := utfRunesRow.holds Try.pinned (OpenSpec.ofChange utfRunesSpec)

/-- ITS FALSE NEIGHBOUR: 'it returns false'. Refute it at one input. -/
def utfRunesWrong : ChangeSpec := { name := "utfRunes", fn := fun _ => fun
  | [d] => { results := [.lit (.bool false)], args := [d] }
  | _ => none }
def UtfRunesWrongFalsely : Prop := utfRunesRow.holds Try.pinned (OpenSpec.ofChange utfRunesWrong)

/-- 'strainerlaw01.UtfTexts': WHATEVER THE INPUT: true; the input reads as it did. -/
def utfTextsSpec : ChangeSpec := { name := "utfTexts", fn := fun _ => fun
  | [d] => { results := [.lit (.bool true)], args := [d] }
  | _ => none }
def utfTextsRow : OpenClaim := { program := "ytmnbmdkoljekpaa", sum := "3965da00b367a0904d7320b512230cb4d43004f8dbaa5bdb79289b18b8912cee", func := "strainer/strainerlaw01.UtfTexts", spec := "utfTexts", inPlace := ["internal/abi.NoEscape"], apart := false }
def UtfTextsSaid : Prop := utfTextsRow.holds Try.pinned (OpenSpec.ofChange utfTextsSpec)

/-- ITS FALSE NEIGHBOUR: 'it returns false'. Refute it at one input. -/
def utfTextsWrong : ChangeSpec := { name := "utfTexts", fn := fun _ => fun
  | [d] => { results := [.lit (.bool false)], args := [d] }
  | _ => none }
def UtfTextsWrongFalsely : Prop := utfTextsRow.holds Try.pinned (OpenSpec.ofChange utfTextsWrong)

/-- 'strainerlaw01.UtfRights': WHATEVER THE INPUT: true; the input reads as it did. -/
def utfRightsSpec : ChangeSpec := { name := "utfRights", fn := fun _ => fun
  | [d] => { results := [.lit (.bool true)], args := [d] }
  | _ => none }
def utfRightsRow : OpenClaim := { program := "ytmnbmdkoljekpaa", sum := "3965da00b367a0904d7320b512230cb4d43004f8dbaa5bdb79289b18b8912cee", func := "strainer/strainerlaw01.UtfRights", spec := "utfRights", inPlace := ["internal/abi.NoEscape"], apart := false }
def UtfRightsSaid : Prop := utfRightsRow.holds Try.pinned (OpenSpec.ofChange utfRightsSpec)

/-- ITS FALSE NEIGHBOUR: 'it returns false'. Refute it at one input. -/
def utfRightsWrong : ChangeSpec := { name := "utfRights", fn := fun _ => fun
  | [d] => { results := [.lit (.bool false)], args := [d] }
  | _ => none }
def UtfRightsWrongFalsely : Prop := utfRightsRow.holds Try.pinned (OpenSpec.ofChange utfRightsWrong)

/-- 'strainerlaw01.UtfIs': WHATEVER THE INPUT: true; the input reads as it did. -/
def utfIsSpec : ChangeSpec := { name := "utfIs", fn := fun _ => fun
  | [d1, d2] => { results := [.lit (.bool true)], args := [d1, d2] }
  | _ => none }
def utfIsRow : OpenClaim := { program := "ytmnbmdkoljekpaa", sum := "3965da00b367a0904d7320b512230cb4d43004f8dbaa5bdb79289b18b8912cee", func := "strainer/strainerlaw01.UtfIs", spec := "utfIs", inPlace := ["internal/abi.NoEscape"], apart := false }
def UtfIsSaid : Prop := utfIsRow.holds Try.pinned (OpenSpec.ofChange utfIsSpec)

/-- ITS FALSE NEIGHBOUR: 'it returns false'. Refute it at one input. -/
def utfIsWrong : ChangeSpec := { name := "utfIs", fn := fun _ => fun
  | [d1, d2] => { results := [.lit (.bool false)], args := [d1, d2] }
  | _ => none }
def UtfIsWrongFalsely : Prop := utfIsRow.holds Try.pinned (OpenSpec.ofChange utfIsWrong)

/-- 'strainerlaw01.UtfRound': WHATEVER THE INPUT: true; the input reads as it did. -/
def utfRoundSpec : ChangeSpec := { name := "utfRound", fn := fun _ => fun
  | [d] => { results := [.lit (.bool true)], args := [d] }
  | _ => none }
def utfRoundRow : OpenClaim := { program := "ytmnbmdkoljekpaa", sum := "3965da00b367a0904d7320b512230cb4d43004f8dbaa5bdb79289b18b8912cee", func := "strainer/strainerlaw01.UtfRound", spec := "utfRound", inPlace := ["internal/abi.NoEscape"], apart := false }
def UtfRoundSaid : Prop := utfRoundRow.holds Try.pinned (OpenSpec.ofChange utfRoundSpec)

/-- ITS FALSE NEIGHBOUR: 'it returns false'. Refute it at one input. -/
def utfRoundWrong : ChangeSpec := { name := "utfRound", fn := fun _ => fun
  | [d] => { results := [.lit (.bool false)], args := [d] }
  | _ => none }
def UtfRoundWrongFalsely : Prop := utfRoundRow.holds Try.pinned (OpenSpec.ofChange utfRoundWrong)

/-- 'strainerlaw01.UtfJoins': WHATEVER THE INPUT: true; the input reads as it did. -/
def utfJoinsSpec : ChangeSpec := { name := "utfJoins", fn := fun _ => fun
  | [d1, d2] => { results := [.lit (.bool true)], args := [d1, d2] }
  | _ => none }
def utfJoinsRow : OpenClaim := { program := "ytmnbmdkoljekpaa", sum := "3965da00b367a0904d7320b512230cb4d43004f8dbaa5bdb79289b18b8912cee", func := "strainer/strainerlaw01.UtfJoins", spec := "utfJoins", inPlace := ["internal/abi.NoEscape"], apart := false }
def UtfJoinsSaid : Prop := utfJoinsRow.holds Try.pinned (OpenSpec.ofChange utfJoinsSpec)

/-- ITS FALSE NEIGHBOUR: 'it returns false'. Refute it at one input. -/
def utfJoinsWrong : ChangeSpec := { name := "utfJoins", fn := fun _ => fun
  | [d1, d2] => { results := [.lit (.bool false)], args := [d1, d2] }
  | _ => none }
def UtfJoinsWrongFalsely : Prop := utfJoinsRow.holds Try.pinned (OpenSpec.ofChange utfJoinsWrong)

/-- 'strainerlaw01.UtfFolds': WHATEVER THE INPUT: true; the input reads as it did. -/
def utfFoldsSpec : ChangeSpec := { name := "utfFolds", fn := fun _ => fun
  | [d1, d2] => { results := [.lit (.bool true)], args := [d1, d2] }
  | _ => none }
def utfFoldsRow : OpenClaim := { program := "ytmnbmdkoljekpaa", sum := "3965da00b367a0904d7320b512230cb4d43004f8dbaa5bdb79289b18b8912cee", func := "strainer/strainerlaw01.UtfFolds", spec := "utfFolds", inPlace := ["internal/abi.NoEscape"], apart := false }
def UtfFoldsSaid : Prop := utfFoldsRow.holds Try.pinned (OpenSpec.ofChange utfFoldsSpec)

/-- ITS FALSE NEIGHBOUR: 'it returns false'. Refute it at one input. -/
def utfFoldsWrong : ChangeSpec := { name := "utfFolds", fn := fun _ => fun
  | [d1, d2] => { results := [.lit (.bool false)], args := [d1, d2] }
  | _ => none }
def UtfFoldsWrongFalsely : Prop := utfFoldsRow.holds Try.pinned (OpenSpec.ofChange utfFoldsWrong)

/- THE SECOND FORM. 'bulk': how many values and letters a reading holds, each counted each time it is reached (what is shared counts as often as it is met; a slice's spare places count too). A statement '..UptoSaid' is the law's where the arguments, and the package variables that the reading takes, are together of bulk at most 1048576: NARROWER than '..Said'. Prove '..Said' where nothing that the law and all that it calls make is longer than what came in: it says more and counts as full. Else prove '..UptoSaid'. A law counts once. -/
mutual
def uptoBulk {H : Type} : DataW H → Nat
  | .lit (.string bytes) => bytes.length + 1
  | .lit _ => 1
  | .nil => 1
  | .ptr d => uptoBulk d + 1
  | .slice elems spare => uptoBulkAll elems + uptoBulkAll spare + 1
  | .agg parts => uptoBulkAll parts + 1
  | .iface _ d => uptoBulk d + 1
  | .map entries => uptoBulkEntries entries + 1
  | .held _ => 1
def uptoBulkAll {H : Type} : List (DataW H) → Nat
  | [] => 0
  | d :: r => uptoBulk d + uptoBulkAll r
def uptoBulkEntries {H : Type} : List (Lit × DataW H) → Nat
  | [] => 0
  | x :: r => uptoBulkEntry x + uptoBulkEntries r
def uptoBulkEntry {H : Type} : Lit × DataW H → Nat
  | (.string bytes, d) => bytes.length + uptoBulk d + 1
  | (_, d) => uptoBulk d + 1
 end
def uptoSmall : (H : Type) → List (DataW H) → Bool := fun _ ds => decide (uptoBulkAll ds ≤ 1048576)
def OpenSpec.upto (s : _root_.Go.ChangeSpec) : _root_.Go.OpenSpec := { _root_.Go.OpenSpec.ofChange s with cond := some uptoSmall }

/-- 'strainerlaw01.UtfRunes', WHERE WHAT IT READS IS OF BULK AT MOST 1048576: true; the input reads as it did. -/
def utfRunesUptoRow : OpenClaim := { program := "ytmnbmdkoljekpaa", sum := "3965da00b367a0904d7320b512230cb4d43004f8dbaa5bdb79289b18b8912cee", func := "strainer/strainerlaw01.UtfRunes", spec := "utfRunes", inPlace := ["internal/abi.NoEscape"], apart := false, narrowed := true }
def UtfRunesUptoSaid : Prop := utfRunesUptoRow.holds Try.pinned (OpenSpec.upto utfRunesSpec)

/-- 'strainerlaw01.UtfTexts', WHERE WHAT IT READS IS OF BULK AT MOST 1048576: true; the input reads as it did. -/
def utfTextsUptoRow : OpenClaim := { program := "ytmnbmdkoljekpaa", sum := "3965da00b367a0904d7320b512230cb4d43004f8dbaa5bdb79289b18b8912cee", func := "strainer/strainerlaw01.UtfTexts", spec := "utfTexts", inPlace := ["internal/abi.NoEscape"], apart := false, narrowed := true }
def UtfTextsUptoSaid : Prop := utfTextsUptoRow.holds Try.pinned (OpenSpec.upto utfTextsSpec)

/-- 'strainerlaw01.UtfRights', WHERE WHAT IT READS IS OF BULK AT MOST 1048576: true; the input reads as it did. -/
def utfRightsUptoRow : OpenClaim := { program := "ytmnbmdkoljekpaa", sum := "3965da00b367a0904d7320b512230cb4d43004f8dbaa5bdb79289b18b8912cee", func := "strainer/strainerlaw01.UtfRights", spec := "utfRights", inPlace := ["internal/abi.NoEscape"], apart := false, narrowed := true }
def UtfRightsUptoSaid : Prop := utfRightsUptoRow.holds Try.pinned (OpenSpec.upto utfRightsSpec)

/-- 'strainerlaw01.UtfIs', WHERE WHAT IT READS IS OF BULK AT MOST 1048576: true; the input reads as it did. -/
def utfIsUptoRow : OpenClaim := { program := "ytmnbmdkoljekpaa", sum := "3965da00b367a0904d7320b512230cb4d43004f8dbaa5bdb79289b18b8912cee", func := "strainer/strainerlaw01.UtfIs", spec := "utfIs", inPlace := ["internal/abi.NoEscape"], apart := false, narrowed := true }
def UtfIsUptoSaid : Prop := utfIsUptoRow.holds Try.pinned (OpenSpec.upto utfIsSpec)

/-- 'strainerlaw01.UtfRound', WHERE WHAT IT READS IS OF BULK AT MOST 1048576: true; the input reads as it did. -/
def utfRoundUptoRow : OpenClaim := { program := "ytmnbmdkoljekpaa", sum := "3965da00b367a0904d7320b512230cb4d43004f8dbaa5bdb79289b18b8912cee", func := "strainer/strainerlaw01.UtfRound", spec := "utfRound", inPlace := ["internal/abi.NoEscape"], apart := false, narrowed := true }
def UtfRoundUptoSaid : Prop := utfRoundUptoRow.holds Try.pinned (OpenSpec.upto utfRoundSpec)

/-- 'strainerlaw01.UtfJoins', WHERE WHAT IT READS IS OF BULK AT MOST 1048576: true; the input reads as it did. -/
def utfJoinsUptoRow : OpenClaim := { program := "ytmnbmdkoljekpaa", sum := "3965da00b367a0904d7320b512230cb4d43004f8dbaa5bdb79289b18b8912cee", func := "strainer/strainerlaw01.UtfJoins", spec := "utfJoins", inPlace := ["internal/abi.NoEscape"], apart := false, narrowed := true }
def UtfJoinsUptoSaid : Prop := utfJoinsUptoRow.holds Try.pinned (OpenSpec.upto utfJoinsSpec)

/-- 'strainerlaw01.UtfFolds', WHERE WHAT IT READS IS OF BULK AT MOST 1048576: true; the input reads as it did. -/
def utfFoldsUptoRow : OpenClaim := { program := "ytmnbmdkoljekpaa", sum := "3965da00b367a0904d7320b512230cb4d43004f8dbaa5bdb79289b18b8912cee", func := "strainer/strainerlaw01.UtfFolds", spec := "utfFolds", inPlace := ["internal/abi.NoEscape"], apart := false, narrowed := true }
def UtfFoldsUptoSaid : Prop := utfFoldsUptoRow.holds Try.pinned (OpenSpec.upto utfFoldsSpec)

end Rows
end Go.Proofs.Ytmnbmdkoljekpaa
