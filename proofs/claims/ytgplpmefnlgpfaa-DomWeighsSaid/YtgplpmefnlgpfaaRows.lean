/-
  NARROWER THAN 'FOR EVERY INPUT', by the rows' own cells (each row's printed sentence says how): DomMay: loops · DomSame: loops · DomMerges: loops · DomValues: loops · DomWeighs: loops.
  DERIVED. THE GIVEN ROWS OF THIS SEAT. 7 by the template 'for every input the law returns true; each argument reads behind the call as it read before'; 0 by the template 'total and deterministic' (their statements: YtgplpmefnlgpfaaTotals.lean).
  GIVEN WITH THE SEED: the statements are not yours to turn. If you find one false, say at which input.
  Laid BY PROGRAM, IN A SANDBOX (cutbox-rows.mjs): the forced cells as the released guide's own fill.sh prints them over the translation 88927917afaa7bea… (all of the seat's roots in one cut). By AI agents, Wed Nov 11 2026. No macro, syntax, notation, axiom, sorry.
-/
import Derived.Test.YtgplpmefnlgpfaaChecked
import GoSem.Claim
import GoSem.ClaimJoined
import GoSem.ClaimMapViews
import Derived.JoinedTies
import Derived.KernelRfl
namespace Go.Proofs.Ytgplpmefnlgpfaa
/- THE CELL 'sum', in the pinned program and in every row, IS THE sha256 OF THE DUMP (.gsa) THAT YtgplpmefnlgpfaaProg.lean LOADS. Nothing in Lean hashes anything: it is a label: what it is worth is what the hold of that sum in a sandbox is worth. -/
noncomputable def Try.pinned : Pinned := { name := "ytgplpmefnlgpfaa", sum := "88927917afaa7bea54e185f0921fb68f29ea1460c43a17341b5881f1a47343b1", checked := Try.checked }
namespace Rows
def none {H : Type} : Left H := { results := [], args := [] }

/-- 'strainerlaw03.DomNames': WHATEVER THE INPUT: true; the input reads as it did. -/
def domNamesSpec : ChangeSpec := { name := "domNames", fn := fun _ => fun
  | [d] => { results := [.lit (.bool true)], args := [d] }
  | _ => none }
def domNamesRow : OpenClaim := { program := "ytgplpmefnlgpfaa", sum := "88927917afaa7bea54e185f0921fb68f29ea1460c43a17341b5881f1a47343b1", func := "strainer/strainerlaw03.DomNames", spec := "domNames", inPlace := ["internal/bytealg.IndexByteString", "internal/bytealg.IndexString"], unfollowed := true, recurses := true, named := ["internal/bytealg.MaxLen"], apart := false }
def DomNamesSaid : Prop := domNamesRow.holds Try.pinned (OpenSpec.ofChange domNamesSpec)

/-- ITS FALSE NEIGHBOUR: 'it returns false'. Refute it at one input. -/
def domNamesWrong : ChangeSpec := { name := "domNames", fn := fun _ => fun
  | [d] => { results := [.lit (.bool false)], args := [d] }
  | _ => none }
def DomNamesWrongFalsely : Prop := domNamesRow.holds Try.pinned (OpenSpec.ofChange domNamesWrong)

/-- 'strainerlaw03.DomMay': WHATEVER THE INPUT: true; the input reads as it did. -/
def domMaySpec : ChangeSpec := { name := "domMay", fn := fun _ => fun
  | [d1, d2, d3] => { results := [.lit (.bool true)], args := [d1, d2, d3] }
  | _ => none }
def domMayRow : OpenClaim := { program := "ytgplpmefnlgpfaa", sum := "88927917afaa7bea54e185f0921fb68f29ea1460c43a17341b5881f1a47343b1", func := "strainer/strainerlaw03.DomMay", spec := "domMay", inPlace := ["internal/bytealg.IndexByteString", "internal/bytealg.IndexString"], unfollowed := true, recurses := true, named := ["internal/bytealg.MaxLen"], loops := true, apart := false }
def DomMaySaid : Prop := domMayRow.holds Try.pinned (OpenSpec.ofChange domMaySpec)

/-- ITS FALSE NEIGHBOUR: 'it returns false'. Refute it at one input. -/
def domMayWrong : ChangeSpec := { name := "domMay", fn := fun _ => fun
  | [d1, d2, d3] => { results := [.lit (.bool false)], args := [d1, d2, d3] }
  | _ => none }
def DomMayWrongFalsely : Prop := domMayRow.holds Try.pinned (OpenSpec.ofChange domMayWrong)

/-- 'strainerlaw03.DomSame': WHATEVER THE INPUT: true; the input reads as it did. -/
def domSameSpec : ChangeSpec := { name := "domSame", fn := fun _ => fun
  | [d1, d2] => { results := [.lit (.bool true)], args := [d1, d2] }
  | _ => none }
def domSameRow : OpenClaim := { program := "ytgplpmefnlgpfaa", sum := "88927917afaa7bea54e185f0921fb68f29ea1460c43a17341b5881f1a47343b1", func := "strainer/strainerlaw03.DomSame", spec := "domSame", inPlace := ["internal/bytealg.IndexByteString", "internal/bytealg.IndexString"], unfollowed := true, recurses := true, named := ["internal/bytealg.MaxLen"], loops := true, apart := false }
def DomSameSaid : Prop := domSameRow.holds Try.pinned (OpenSpec.ofChange domSameSpec)

/-- ITS FALSE NEIGHBOUR: 'it returns false'. Refute it at one input. -/
def domSameWrong : ChangeSpec := { name := "domSame", fn := fun _ => fun
  | [d1, d2] => { results := [.lit (.bool false)], args := [d1, d2] }
  | _ => none }
def DomSameWrongFalsely : Prop := domSameRow.holds Try.pinned (OpenSpec.ofChange domSameWrong)

/-- 'strainerlaw03.DomMerges': WHATEVER THE INPUT: true; the input reads as it did. -/
def domMergesSpec : ChangeSpec := { name := "domMerges", fn := fun _ => fun
  | [d] => { results := [.lit (.bool true)], args := [d] }
  | _ => none }
def domMergesRow : OpenClaim := { program := "ytgplpmefnlgpfaa", sum := "88927917afaa7bea54e185f0921fb68f29ea1460c43a17341b5881f1a47343b1", func := "strainer/strainerlaw03.DomMerges", spec := "domMerges", inPlace := ["internal/abi.NoEscape", "internal/bytealg.IndexByteString", "internal/bytealg.IndexString"], unfollowed := true, recurses := true, named := ["internal/bytealg.MaxLen"], loops := true, apart := false }
def DomMergesSaid : Prop := domMergesRow.holds Try.pinned (OpenSpec.ofChange domMergesSpec)

/-- ITS FALSE NEIGHBOUR: 'it returns false'. Refute it at one input. -/
def domMergesWrong : ChangeSpec := { name := "domMerges", fn := fun _ => fun
  | [d] => { results := [.lit (.bool false)], args := [d] }
  | _ => none }
def DomMergesWrongFalsely : Prop := domMergesRow.holds Try.pinned (OpenSpec.ofChange domMergesWrong)

/-- 'strainerlaw03.DomValues': WHATEVER THE INPUT: true; the input reads as it did. -/
def domValuesSpec : ChangeSpec := { name := "domValues", fn := fun _ => fun
  | [d1, d2] => { results := [.lit (.bool true)], args := [d1, d2] }
  | _ => none }
def domValuesRow : OpenClaim := { program := "ytgplpmefnlgpfaa", sum := "88927917afaa7bea54e185f0921fb68f29ea1460c43a17341b5881f1a47343b1", func := "strainer/strainerlaw03.DomValues", spec := "domValues", inPlace := ["internal/bytealg.IndexByteString", "internal/bytealg.IndexString"], unfollowed := true, recurses := true, named := ["internal/bytealg.MaxLen"], loops := true, apart := false }
def DomValuesSaid : Prop := domValuesRow.holds Try.pinned (OpenSpec.ofChange domValuesSpec)

/-- ITS FALSE NEIGHBOUR: 'it returns false'. Refute it at one input. -/
def domValuesWrong : ChangeSpec := { name := "domValues", fn := fun _ => fun
  | [d1, d2] => { results := [.lit (.bool false)], args := [d1, d2] }
  | _ => none }
def DomValuesWrongFalsely : Prop := domValuesRow.holds Try.pinned (OpenSpec.ofChange domValuesWrong)

/-- 'strainerlaw03.DomWeighs': WHATEVER THE INPUT: true; the input reads as it did. -/
def domWeighsSpec : ChangeSpec := { name := "domWeighs", fn := fun _ => fun
  | [d1, d2] => { results := [.lit (.bool true)], args := [d1, d2] }
  | _ => none }
def domWeighsRow : OpenClaim := { program := "ytgplpmefnlgpfaa", sum := "88927917afaa7bea54e185f0921fb68f29ea1460c43a17341b5881f1a47343b1", func := "strainer/strainerlaw03.DomWeighs", spec := "domWeighs", inPlace := ["internal/bytealg.IndexByteString", "internal/bytealg.IndexString"], unfollowed := true, recurses := true, named := ["internal/bytealg.MaxLen"], loops := true, apart := false }
def DomWeighsSaid : Prop := domWeighsRow.holds Try.pinned (OpenSpec.ofChange domWeighsSpec)

/-- ITS FALSE NEIGHBOUR: 'it returns false'. Refute it at one input. -/
def domWeighsWrong : ChangeSpec := { name := "domWeighs", fn := fun _ => fun
  | [d1, d2] => { results := [.lit (.bool false)], args := [d1, d2] }
  | _ => none }
def DomWeighsWrongFalsely : Prop := domWeighsRow.holds Try.pinned (OpenSpec.ofChange domWeighsWrong)

/-- 'strainerlaw03.DomGood': WHATEVER THE INPUT: true; the input reads as it did. -/
def domGoodSpec : ChangeSpec := { name := "domGood", fn := fun _ => fun
  | [d] => { results := [.lit (.bool true)], args := [d] }
  | _ => none }
def domGoodRow : OpenClaim := { program := "ytgplpmefnlgpfaa", sum := "88927917afaa7bea54e185f0921fb68f29ea1460c43a17341b5881f1a47343b1", func := "strainer/strainerlaw03.DomGood", spec := "domGood", inPlace := ["internal/abi.NoEscape", "internal/bytealg.IndexByteString", "internal/bytealg.IndexString"], unfollowed := true, recurses := true, named := ["internal/bytealg.MaxLen"], apart := false }
def DomGoodSaid : Prop := domGoodRow.holds Try.pinned (OpenSpec.ofChange domGoodSpec)

/-- ITS FALSE NEIGHBOUR: 'it returns false'. Refute it at one input. -/
def domGoodWrong : ChangeSpec := { name := "domGood", fn := fun _ => fun
  | [d] => { results := [.lit (.bool false)], args := [d] }
  | _ => none }
def DomGoodWrongFalsely : Prop := domGoodRow.holds Try.pinned (OpenSpec.ofChange domGoodWrong)

/- THE SECOND FORM. 'bulk': how many values and letters a reading holds, each counted each time it is reached (what is shared counts as often as it is met; a slice's spare places count too). A statement '..UptoSaid' is the law's where the arguments, and the package variables that the reading takes, are together of bulk at most 1048576: NARROWER than '..Said'. Prove '..Said' where nothing that the law and all that it calls make is longer than what came in: it says more and counts as full. Else prove '..UptoSaid'. A law counts once. -/
mutual
def uptoBulk {H : Type} : DataW H → Nat
  | .lit (.string bytes) => bytes.length + 1
  | .lit _ => 1
  | .nil => 1
  | .ptr d => uptoBulk d + 1
  | .slice elems spare => uptoBulkAll elems + uptoBulkAll spare + 1
  | .agg parts => uptoBulkAll parts + 1
  | .iface _ d => uptoBulk d + 1
  | .map entries => uptoBulkEntries entries + 1
  | .held _ => 1
def uptoBulkAll {H : Type} : List (DataW H) → Nat
  | [] => 0
  | d :: r => uptoBulk d + uptoBulkAll r
def uptoBulkEntries {H : Type} : List (Lit × DataW H) → Nat
  | [] => 0
  | x :: r => uptoBulkEntry x + uptoBulkEntries r
def uptoBulkEntry {H : Type} : Lit × DataW H → Nat
  | (.string bytes, d) => bytes.length + uptoBulk d + 1
  | (_, d) => uptoBulk d + 1
 end
def uptoSmall : (H : Type) → List (DataW H) → Bool := fun _ ds => decide (uptoBulkAll ds ≤ 1048576)
def OpenSpec.upto (s : _root_.Go.ChangeSpec) : _root_.Go.OpenSpec := { _root_.Go.OpenSpec.ofChange s with cond := some uptoSmall }

/-- 'strainerlaw03.DomNames', WHERE WHAT IT READS IS OF BULK AT MOST 1048576: true; the input reads as it did. -/
def domNamesUptoRow : OpenClaim := { program := "ytgplpmefnlgpfaa", sum := "88927917afaa7bea54e185f0921fb68f29ea1460c43a17341b5881f1a47343b1", func := "strainer/strainerlaw03.DomNames", spec := "domNames", inPlace := ["internal/bytealg.IndexByteString", "internal/bytealg.IndexString"], unfollowed := true, recurses := true, named := ["internal/bytealg.MaxLen"], apart := false, narrowed := true }
def DomNamesUptoSaid : Prop := domNamesUptoRow.holds Try.pinned (OpenSpec.upto domNamesSpec)

/-- 'strainerlaw03.DomMay', WHERE WHAT IT READS IS OF BULK AT MOST 1048576: true; the input reads as it did. -/
def domMayUptoRow : OpenClaim := { program := "ytgplpmefnlgpfaa", sum := "88927917afaa7bea54e185f0921fb68f29ea1460c43a17341b5881f1a47343b1", func := "strainer/strainerlaw03.DomMay", spec := "domMay", inPlace := ["internal/bytealg.IndexByteString", "internal/bytealg.IndexString"], unfollowed := true, recurses := true, named := ["internal/bytealg.MaxLen"], loops := true, apart := false, narrowed := true }
def DomMayUptoSaid : Prop := domMayUptoRow.holds Try.pinned (OpenSpec.upto domMaySpec)

/-- 'strainerlaw03.DomSame', WHERE WHAT IT READS IS OF BULK AT MOST 1048576: true; the input reads as it did. -/
def domSameUptoRow : OpenClaim := { program := "ytgplpmefnlgpfaa", sum := "88927917afaa7bea54e185f0921fb68f29ea1460c43a17341b5881f1a47343b1", func := "strainer/strainerlaw03.DomSame", spec := "domSame", inPlace := ["internal/bytealg.IndexByteString", "internal/bytealg.IndexString"], unfollowed := true, recurses := true, named := ["internal/bytealg.MaxLen"], loops := true, apart := false, narrowed := true }
def DomSameUptoSaid : Prop := domSameUptoRow.holds Try.pinned (OpenSpec.upto domSameSpec)

/-- 'strainerlaw03.DomMerges', WHERE WHAT IT READS IS OF BULK AT MOST 1048576: true; the input reads as it did. -/
def domMergesUptoRow : OpenClaim := { program := "ytgplpmefnlgpfaa", sum := "88927917afaa7bea54e185f0921fb68f29ea1460c43a17341b5881f1a47343b1", func := "strainer/strainerlaw03.DomMerges", spec := "domMerges", inPlace := ["internal/abi.NoEscape", "internal/bytealg.IndexByteString", "internal/bytealg.IndexString"], unfollowed := true, recurses := true, named := ["internal/bytealg.MaxLen"], loops := true, apart := false, narrowed := true }
def DomMergesUptoSaid : Prop := domMergesUptoRow.holds Try.pinned (OpenSpec.upto domMergesSpec)

/-- 'strainerlaw03.DomValues', WHERE WHAT IT READS IS OF BULK AT MOST 1048576: true; the input reads as it did. -/
def domValuesUptoRow : OpenClaim := { program := "ytgplpmefnlgpfaa", sum := "88927917afaa7bea54e185f0921fb68f29ea1460c43a17341b5881f1a47343b1", func := "strainer/strainerlaw03.DomValues", spec := "domValues", inPlace := ["internal/bytealg.IndexByteString", "internal/bytealg.IndexString"], unfollowed := true, recurses := true, named := ["internal/bytealg.MaxLen"], loops := true, apart := false, narrowed := true }
def DomValuesUptoSaid : Prop := domValuesUptoRow.holds Try.pinned (OpenSpec.upto domValuesSpec)

/-- 'strainerlaw03.DomWeighs', WHERE WHAT IT READS IS OF BULK AT MOST 1048576: true; the input reads as it did. -/
def domWeighsUptoRow : OpenClaim := { program := "ytgplpmefnlgpfaa", sum := "88927917afaa7bea54e185f0921fb68f29ea1460c43a17341b5881f1a47343b1", func := "strainer/strainerlaw03.DomWeighs", spec := "domWeighs", inPlace := ["internal/bytealg.IndexByteString", "internal/bytealg.IndexString"], unfollowed := true, recurses := true, named := ["internal/bytealg.MaxLen"], loops := true, apart := false, narrowed := true }
def DomWeighsUptoSaid : Prop := domWeighsUptoRow.holds Try.pinned (OpenSpec.upto domWeighsSpec)

/-- 'strainerlaw03.DomGood', WHERE WHAT IT READS IS OF BULK AT MOST 1048576: true; the input reads as it did. -/
def domGoodUptoRow : OpenClaim := { program := "ytgplpmefnlgpfaa", sum := "88927917afaa7bea54e185f0921fb68f29ea1460c43a17341b5881f1a47343b1", func := "strainer/strainerlaw03.DomGood", spec := "domGood", inPlace := ["internal/abi.NoEscape", "internal/bytealg.IndexByteString", "internal/bytealg.IndexString"], unfollowed := true, recurses := true, named := ["internal/bytealg.MaxLen"], apart := false, narrowed := true }
def DomGoodUptoSaid : Prop := domGoodUptoRow.holds Try.pinned (OpenSpec.upto domGoodSpec)

end Rows
end Go.Proofs.Ytgplpmefnlgpfaa
