/-
  NARROWER THAN 'FOR EVERY INPUT', by the rows' own cells (each row's printed sentence says how): ModelFits: loops · ModelStable: loops · ModelSteady: loops · ModelParts: loops · ModelKinds: loops.
  DERIVED. THE GIVEN ROWS OF THIS SEAT. 6 by the template 'for every input the law returns true; each argument reads behind the call as it read before'; 0 by the template 'total and deterministic' (their statements: YtbnfaijkmbgpmaaTotals.lean).
  GIVEN WITH THE SEED: the statements are not yours to turn. If you find one false, say at which input.
  Laid BY PROGRAM, IN A SANDBOX (cutbox-rows.mjs): the forced cells as the released guide's own fill.sh prints them over the translation d2f7ba2c8c951c5f… (all of the seat's roots in one cut). By AI agents, Wed Nov 11 2026. No macro, syntax, notation, axiom, sorry.
-/
import Derived.Test.YtbnfaijkmbgpmaaChecked
import GoSem.Claim
import GoSem.ClaimJoined
import GoSem.ClaimMapViews
import Derived.JoinedTies
import Derived.KernelRfl
namespace Go.Proofs.Ytbnfaijkmbgpmaa
/- THE CELL 'sum', in the pinned program and in every row, IS THE sha256 OF THE DUMP (.gsa) THAT YtbnfaijkmbgpmaaProg.lean LOADS. Nothing in Lean hashes anything: it is a label: what it is worth is what the hold of that sum in a sandbox is worth. -/
noncomputable def Try.pinned : Pinned := { name := "ytbnfaijkmbgpmaa", sum := "d2f7ba2c8c951c5fede7ff70726b8249064aefaedafbd55ff621f477504b0723", checked := Try.checked }
namespace Rows
def none {H : Type} : Left H := { results := [], args := [] }

/-- 'strainerlaw06.ModelCloses': WHATEVER THE INPUT: true; the input reads as it did. -/
def modelClosesSpec : ChangeSpec := { name := "modelCloses", fn := fun _ => fun
  | [d1, d2] => { results := [.lit (.bool true)], args := [d1, d2] }
  | _ => none }
def modelClosesRow : OpenClaim := { program := "ytbnfaijkmbgpmaa", sum := "d2f7ba2c8c951c5fede7ff70726b8249064aefaedafbd55ff621f477504b0723", func := "strainer/strainerlaw06.ModelCloses", spec := "modelCloses", inPlace := ["internal/bytealg.IndexByteString", "internal/bytealg.IndexString"], unfollowed := true, recurses := true, named := ["internal/bytealg.MaxLen"], apart := false }
def ModelClosesSaid : Prop := modelClosesRow.holds Try.pinned (OpenSpec.ofChange modelClosesSpec)

/-- ITS FALSE NEIGHBOUR: 'it returns false'. Refute it at one input. -/
def modelClosesWrong : ChangeSpec := { name := "modelCloses", fn := fun _ => fun
  | [d1, d2] => { results := [.lit (.bool false)], args := [d1, d2] }
  | _ => none }
def ModelClosesWrongFalsely : Prop := modelClosesRow.holds Try.pinned (OpenSpec.ofChange modelClosesWrong)

/-- 'strainerlaw06.ModelFits': WHATEVER THE INPUT: true; the input reads as it did. -/
def modelFitsSpec : ChangeSpec := { name := "modelFits", fn := fun _ => fun
  | [d1, d2] => { results := [.lit (.bool true)], args := [d1, d2] }
  | _ => none }
def modelFitsRow : OpenClaim := { program := "ytbnfaijkmbgpmaa", sum := "d2f7ba2c8c951c5fede7ff70726b8249064aefaedafbd55ff621f477504b0723", func := "strainer/strainerlaw06.ModelFits", spec := "modelFits", inPlace := ["internal/bytealg.IndexByteString", "internal/bytealg.IndexString"], unfollowed := true, recurses := true, named := ["internal/bytealg.MaxLen"], loops := true, apart := false }
def ModelFitsSaid : Prop := modelFitsRow.holds Try.pinned (OpenSpec.ofChange modelFitsSpec)

/-- ITS FALSE NEIGHBOUR: 'it returns false'. Refute it at one input. -/
def modelFitsWrong : ChangeSpec := { name := "modelFits", fn := fun _ => fun
  | [d1, d2] => { results := [.lit (.bool false)], args := [d1, d2] }
  | _ => none }
def ModelFitsWrongFalsely : Prop := modelFitsRow.holds Try.pinned (OpenSpec.ofChange modelFitsWrong)

/-- 'strainerlaw06.ModelStable': WHATEVER THE INPUT: true; the input reads as it did. -/
def modelStableSpec : ChangeSpec := { name := "modelStable", fn := fun _ => fun
  | [d] => { results := [.lit (.bool true)], args := [d] }
  | _ => none }
def modelStableRow : OpenClaim := { program := "ytbnfaijkmbgpmaa", sum := "d2f7ba2c8c951c5fede7ff70726b8249064aefaedafbd55ff621f477504b0723", func := "strainer/strainerlaw06.ModelStable", spec := "modelStable", inPlace := ["internal/bytealg.IndexByteString", "internal/bytealg.IndexString"], unfollowed := true, recurses := true, named := ["internal/bytealg.MaxLen"], loops := true, apart := false }
def ModelStableSaid : Prop := modelStableRow.holds Try.pinned (OpenSpec.ofChange modelStableSpec)

/-- ITS FALSE NEIGHBOUR: 'it returns false'. Refute it at one input. -/
def modelStableWrong : ChangeSpec := { name := "modelStable", fn := fun _ => fun
  | [d] => { results := [.lit (.bool false)], args := [d] }
  | _ => none }
def ModelStableWrongFalsely : Prop := modelStableRow.holds Try.pinned (OpenSpec.ofChange modelStableWrong)

/-- 'strainerlaw06.ModelSteady': WHATEVER THE INPUT: true; the input reads as it did. -/
def modelSteadySpec : ChangeSpec := { name := "modelSteady", fn := fun _ => fun
  | [d] => { results := [.lit (.bool true)], args := [d] }
  | _ => none }
def modelSteadyRow : OpenClaim := { program := "ytbnfaijkmbgpmaa", sum := "d2f7ba2c8c951c5fede7ff70726b8249064aefaedafbd55ff621f477504b0723", func := "strainer/strainerlaw06.ModelSteady", spec := "modelSteady", inPlace := ["internal/bytealg.IndexByteString", "internal/bytealg.IndexString", "internal/abi.NoEscape"], unfollowed := true, recurses := true, named := ["internal/bytealg.MaxLen"], loops := true, apart := false }
def ModelSteadySaid : Prop := modelSteadyRow.holds Try.pinned (OpenSpec.ofChange modelSteadySpec)

/-- ITS FALSE NEIGHBOUR: 'it returns false'. Refute it at one input. -/
def modelSteadyWrong : ChangeSpec := { name := "modelSteady", fn := fun _ => fun
  | [d] => { results := [.lit (.bool false)], args := [d] }
  | _ => none }
def ModelSteadyWrongFalsely : Prop := modelSteadyRow.holds Try.pinned (OpenSpec.ofChange modelSteadyWrong)

/-- 'strainerlaw06.ModelParts': WHATEVER THE INPUT: true; the input reads as it did. -/
def modelPartsSpec : ChangeSpec := { name := "modelParts", fn := fun _ => fun
  | [d] => { results := [.lit (.bool true)], args := [d] }
  | _ => none }
def modelPartsRow : OpenClaim := { program := "ytbnfaijkmbgpmaa", sum := "d2f7ba2c8c951c5fede7ff70726b8249064aefaedafbd55ff621f477504b0723", func := "strainer/strainerlaw06.ModelParts", spec := "modelParts", inPlace := ["internal/bytealg.IndexByteString", "internal/bytealg.IndexString"], unfollowed := true, recurses := true, named := ["internal/bytealg.MaxLen"], loops := true, apart := false }
def ModelPartsSaid : Prop := modelPartsRow.holds Try.pinned (OpenSpec.ofChange modelPartsSpec)

/-- ITS FALSE NEIGHBOUR: 'it returns false'. Refute it at one input. -/
def modelPartsWrong : ChangeSpec := { name := "modelParts", fn := fun _ => fun
  | [d] => { results := [.lit (.bool false)], args := [d] }
  | _ => none }
def ModelPartsWrongFalsely : Prop := modelPartsRow.holds Try.pinned (OpenSpec.ofChange modelPartsWrong)

/-- 'strainerlaw06.ModelKinds': WHATEVER THE INPUT: true; the input reads as it did. -/
def modelKindsSpec : ChangeSpec := { name := "modelKinds", fn := fun _ => fun
  | [d] => { results := [.lit (.bool true)], args := [d] }
  | _ => none }
def modelKindsRow : OpenClaim := { program := "ytbnfaijkmbgpmaa", sum := "d2f7ba2c8c951c5fede7ff70726b8249064aefaedafbd55ff621f477504b0723", func := "strainer/strainerlaw06.ModelKinds", spec := "modelKinds", inPlace := ["internal/bytealg.IndexByteString", "internal/bytealg.IndexString"], unfollowed := true, recurses := true, named := ["internal/bytealg.MaxLen"], loops := true, apart := false }
def ModelKindsSaid : Prop := modelKindsRow.holds Try.pinned (OpenSpec.ofChange modelKindsSpec)

/-- ITS FALSE NEIGHBOUR: 'it returns false'. Refute it at one input. -/
def modelKindsWrong : ChangeSpec := { name := "modelKinds", fn := fun _ => fun
  | [d] => { results := [.lit (.bool false)], args := [d] }
  | _ => none }
def ModelKindsWrongFalsely : Prop := modelKindsRow.holds Try.pinned (OpenSpec.ofChange modelKindsWrong)

/- THE SECOND FORM. 'bulk': how many values and letters a reading holds, each counted each time it is reached (what is shared counts as often as it is met; a slice's spare places count too). A statement '..UptoSaid' is the law's where the arguments, and the package variables that the reading takes, are together of bulk at most 1048576: NARROWER than '..Said'. Prove '..Said' where nothing that the law and all that it calls make is longer than what came in: it says more and counts as full. Else prove '..UptoSaid'. A law counts once. -/
mutual
def uptoBulk {H : Type} : DataW H → Nat
  | .lit (.string bytes) => bytes.length + 1
  | .lit _ => 1
  | .nil => 1
  | .ptr d => uptoBulk d + 1
  | .slice elems spare => uptoBulkAll elems + uptoBulkAll spare + 1
  | .agg parts => uptoBulkAll parts + 1
  | .iface _ d => uptoBulk d + 1
  | .map entries => uptoBulkEntries entries + 1
  | .held _ => 1
def uptoBulkAll {H : Type} : List (DataW H) → Nat
  | [] => 0
  | d :: r => uptoBulk d + uptoBulkAll r
def uptoBulkEntries {H : Type} : List (Lit × DataW H) → Nat
  | [] => 0
  | x :: r => uptoBulkEntry x + uptoBulkEntries r
def uptoBulkEntry {H : Type} : Lit × DataW H → Nat
  | (.string bytes, d) => bytes.length + uptoBulk d + 1
  | (_, d) => uptoBulk d + 1
 end
def uptoSmall : (H : Type) → List (DataW H) → Bool := fun _ ds => decide (uptoBulkAll ds ≤ 1048576)
def OpenSpec.upto (s : _root_.Go.ChangeSpec) : _root_.Go.OpenSpec := { _root_.Go.OpenSpec.ofChange s with cond := some uptoSmall }

/-- 'strainerlaw06.ModelCloses', WHERE WHAT IT READS IS OF BULK AT MOST 1048576: true; the input reads as it did. -/
def modelClosesUptoRow : OpenClaim := { program := "ytbnfaijkmbgpmaa", sum := "d2f7ba2c8c951c5fede7ff70726b8249064aefaedafbd55ff621f477504b0723", func := "strainer/strainerlaw06.ModelCloses", spec := "modelCloses", inPlace := ["internal/bytealg.IndexByteString", "internal/bytealg.IndexString"], unfollowed := true, recurses := true, named := ["internal/bytealg.MaxLen"], apart := false, narrowed := true }
def ModelClosesUptoSaid : Prop := modelClosesUptoRow.holds Try.pinned (OpenSpec.upto modelClosesSpec)

/-- 'strainerlaw06.ModelFits', WHERE WHAT IT READS IS OF BULK AT MOST 1048576: true; the input reads as it did. -/
def modelFitsUptoRow : OpenClaim := { program := "ytbnfaijkmbgpmaa", sum := "d2f7ba2c8c951c5fede7ff70726b8249064aefaedafbd55ff621f477504b0723", func := "strainer/strainerlaw06.ModelFits", spec := "modelFits", inPlace := ["internal/bytealg.IndexByteString", "internal/bytealg.IndexString"], unfollowed := true, recurses := true, named := ["internal/bytealg.MaxLen"], loops := true, apart := false, narrowed := true }
def ModelFitsUptoSaid : Prop := modelFitsUptoRow.holds Try.pinned (OpenSpec.upto modelFitsSpec)

/-- 'strainerlaw06.ModelStable', WHERE WHAT IT READS IS OF BULK AT MOST 1048576: true; the input reads as it did. -/
def modelStableUptoRow : OpenClaim := { program := "ytbnfaijkmbgpmaa", sum := "d2f7ba2c8c951c5fede7ff70726b8249064aefaedafbd55ff621f477504b0723", func := "strainer/strainerlaw06.ModelStable", spec := "modelStable", inPlace := ["internal/bytealg.IndexByteString", "internal/bytealg.IndexString"], unfollowed := true, recurses := true, named := ["internal/bytealg.MaxLen"], loops := true, apart := false, narrowed := true }
def ModelStableUptoSaid : Prop := modelStableUptoRow.holds Try.pinned (OpenSpec.upto modelStableSpec)

/-- 'strainerlaw06.ModelSteady', WHERE WHAT IT READS IS OF BULK AT MOST 1048576: true; the input reads as it did. -/
def modelSteadyUptoRow : OpenClaim := { program := "ytbnfaijkmbgpmaa", sum := "d2f7ba2c8c951c5fede7ff70726b8249064aefaedafbd55ff621f477504b0723", func := "strainer/strainerlaw06.ModelSteady", spec := "modelSteady", inPlace := ["internal/bytealg.IndexByteString", "internal/bytealg.IndexString", "internal/abi.NoEscape"], unfollowed := true, recurses := true, named := ["internal/bytealg.MaxLen"], loops := true, apart := false, narrowed := true }
def ModelSteadyUptoSaid : Prop := modelSteadyUptoRow.holds Try.pinned (OpenSpec.upto modelSteadySpec)

/-- 'strainerlaw06.ModelParts', WHERE WHAT IT READS IS OF BULK AT MOST 1048576: true; the input reads as it did. -/
def modelPartsUptoRow : OpenClaim := { program := "ytbnfaijkmbgpmaa", sum := "d2f7ba2c8c951c5fede7ff70726b8249064aefaedafbd55ff621f477504b0723", func := "strainer/strainerlaw06.ModelParts", spec := "modelParts", inPlace := ["internal/bytealg.IndexByteString", "internal/bytealg.IndexString"], unfollowed := true, recurses := true, named := ["internal/bytealg.MaxLen"], loops := true, apart := false, narrowed := true }
def ModelPartsUptoSaid : Prop := modelPartsUptoRow.holds Try.pinned (OpenSpec.upto modelPartsSpec)

/-- 'strainerlaw06.ModelKinds', WHERE WHAT IT READS IS OF BULK AT MOST 1048576: true; the input reads as it did. -/
def modelKindsUptoRow : OpenClaim := { program := "ytbnfaijkmbgpmaa", sum := "d2f7ba2c8c951c5fede7ff70726b8249064aefaedafbd55ff621f477504b0723", func := "strainer/strainerlaw06.ModelKinds", spec := "modelKinds", inPlace := ["internal/bytealg.IndexByteString", "internal/bytealg.IndexString"], unfollowed := true, recurses := true, named := ["internal/bytealg.MaxLen"], loops := true, apart := false, narrowed := true }
def ModelKindsUptoSaid : Prop := modelKindsUptoRow.holds Try.pinned (OpenSpec.upto modelKindsSpec)

end Rows
end Go.Proofs.Ytbnfaijkmbgpmaa
