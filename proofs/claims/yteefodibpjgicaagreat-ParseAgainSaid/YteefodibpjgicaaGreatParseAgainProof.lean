/- Proved: for every input, strainerlaw08.ParseAgain answers true, and each argument reads behind the call as it read before. No condition beyond the row's own. -/
import Derived.Test.YteefodibpjgicaaGreatRows
import Derived.WalkKit
import Derived.ProofKit
import Derived.OpenShut
import Derived.ShutString
import Derived.ChangeOld
import Derived.Below
import Derived.HandedShaped
import Derived.Carry
import Derived.Test.YteefodibpjgicaaGreatA1
import Derived.Test.YteefodibpjgicaaGreatA2
import Derived.Test.YteefodibpjgicaaGreatA3
import Derived.Test.YteefodibpjgicaaGreatA4
import Derived.Test.YteefodibpjgicaaGreatA5
import Derived.Test.YteefodibpjgicaaGreatA6
import Derived.Test.YteefodibpjgicaaGreatA7
import Derived.Test.YteefodibpjgicaaGreatA8
import Derived.Test.YteefodibpjgicaaGreatA9
import Derived.Test.YteefodibpjgicaaGreatA10
import Derived.Test.YteefodibpjgicaaGreatA11
import Derived.Test.YteefodibpjgicaaGreatA12
import Derived.Test.YteefodibpjgicaaGreatA13
import Derived.Test.YteefodibpjgicaaGreatA14
import Derived.Test.YteefodibpjgicaaGreatA15
import Derived.Test.YteefodibpjgicaaGreatA16
import Derived.Test.YteefodibpjgicaaGreatA17
import Derived.Test.YteefodibpjgicaaGreatA18
import Derived.Test.YteefodibpjgicaaGreatA19
import Derived.Test.YteefodibpjgicaaGreatA20
import Derived.Test.YteefodibpjgicaaGreatA21
import Derived.Test.YteefodibpjgicaaGreatA22
import Derived.Test.YteefodibpjgicaaGreatA23
import Derived.Test.YteefodibpjgicaaGreatA24
import Derived.Test.YteefodibpjgicaaGreatA25
import Derived.Test.YteefodibpjgicaaGreatA26
import Derived.Test.YteefodibpjgicaaGreatA27
import Derived.Test.YteefodibpjgicaaGreatA28
import Derived.Test.YteefodibpjgicaaGreatA29
import Derived.Test.YteefodibpjgicaaGreatA30
import Derived.Test.YteefodibpjgicaaGreatA31
import Derived.Test.YteefodibpjgicaaGreatA32
import Derived.Test.YteefodibpjgicaaGreatA33
import Derived.Test.YteefodibpjgicaaGreatA34
import Derived.Test.YteefodibpjgicaaGreatA35
import Derived.Test.YteefodibpjgicaaGreatA36
import Derived.Test.YteefodibpjgicaaGreatA37
import Derived.Test.YteefodibpjgicaaGreatA38
import Derived.Test.YteefodibpjgicaaGreatA39
import Derived.Test.YteefodibpjgicaaGreatA40
import Derived.Test.YteefodibpjgicaaGreatA41
import Derived.Test.YteefodibpjgicaaGreatA42
import Derived.Test.YteefodibpjgicaaGreatA43
import Derived.Test.YteefodibpjgicaaGreatA44
import Derived.Test.YteefodibpjgicaaGreatA45
import Derived.Test.YteefodibpjgicaaGreatA46
import Derived.Test.YteefodibpjgicaaGreatA47
import Derived.Test.YteefodibpjgicaaGreatA48
import Derived.Test.YteefodibpjgicaaGreatA49
import Derived.Test.YteefodibpjgicaaGreatA50
import Derived.Test.YteefodibpjgicaaGreatA51
import Derived.Test.YteefodibpjgicaaGreatA52
import Derived.Test.YteefodibpjgicaaGreatA53
import Derived.Test.YteefodibpjgicaaGreatA54
namespace Go.Proofs.YteefodibpjgicaaGreat.parseAgain
open Go.ChangeShapes Go.WideShapes Go.ChangeAt Go.RowKit
open Go.ChangeMaps (open_string shut_string)
set_option linter.unusedVariables false

theorem own : ownKnob Tryz.prog.godebug = none := by kernel_rfl
theorem laidOut : laidOutB Tryz.prog = true := by kernel_rfl

theorem walk (v0 : Value) (l0 : List Nd) (w : World) (r0 : RepN (fun b => b < w.heap.size) w v0 l0) (z0 : SzN l0) (hg : Glo w) :
    Calls Tryz.prog 4 #[v0] w fun e w' => e = .returned (.bool true) ∧ Below w.heap.size w w' := by
  exact law08ParseAgain _ _ l0 w hg (fun b h => h) r0 z0

set_option maxRecDepth 100000 in
theorem lifted (os : Os) (started : os.Started) (H : Type) (enc : TypeId × Value → H) :
    ReturnsInHanded {} Tryz.checked os 4 .any (Rows.parseAgainSpec.pre6 enc Tryz.prog Tryz.f4 Rows.parseAgainRow.domain false) (Rows.parseAgainSpec.post enc Tryz.prog Tryz.f4 false true false false) := by
  refine returnsInHanded_of_change_shaped (C := Tryz.checked) own started (by kernel_rfl) Tryz.func4
    (ChangeSpec.witness6 (enc := enc) (C := Tryz.checked) false ⟨#[], #[.slice none 0 0], []⟩ 8 (by kernel_rfl) (by kernel_rfl) (by kernel_rfl) (by kernel_rfl)) ?_
  intro W base args ds gs before hval0 hW hcnd _ hsh _
  have hval : ∀ (j : Nat) t v, Tryz.f4.params[j]? = some t → args[j]? = some v → Value.okWide Tryz.prog W .any base t v := hval0
  have hW' := hW
  obtain ⟨p, q, hA0, hV, rfl, hfz, hnd⟩ := hW
  have hA : DataW.TrodAll enc Tryz.prog W 0 (fun _ => true) true Tryz.f4.params.toList args.toList ds p := hA0
  rw [Tryz.params4] at hA hval
  obtain ⟨v0, vs0, d0, ds0, p0, q0, hargs, rfl, rfl, h0, r_0⟩ := trodAll_cons hA
  obtain ⟨rfl, rfl, rfl⟩ := trodAll_nil r_0
  obtain rfl : args = #[v0] := by cases args; simp_all
  obtain ⟨rfl, rfl⟩ := trodVars_none hV
  have k0 := h0
  have lt0 : ∀ x ∈ p0, x.block < W.heap.size := by obtain ⟨m, hm⟩ := k0; exact DataW.trod_lt m _ _ _ hm
  obtain ⟨fuel0, hf0⟩ := h0
  obtain ⟨a0, len0, cap0, rfl⟩ := okWide_slice Tryz.underlying25 (hval 0 25 v0 rfl rfl)
  obtain ⟨v', l0, hcs0, r0, z0⟩ := open_nodes fuel0 _ _ hf0
  simp [Value.cells] at hcs0
  subst hcs0
  clear hA0 hval0
  refine (walk _ l0 W r0 z0 (glo_of hsh)).mono fun e W' ⟨he, bel⟩ => ?_
  subst he
  exact ⟨_, rfl, _, _, _, [], _, [], hW', trodAll_mk1 (shut_bool Tryz.underlying4 _), (trodAll_cons_mk (Below.trod laidOut (by kernel_rfl) (of_decide_eq_true (by kernel_rfl)) k0 bel lt0) trodAll_mk0), rfl, bel.frame _, fun h => by cases h⟩

theorem over : Rows.parseAgainRow.holds Tryz.pinned (OpenSpec.ofChange Rows.parseAgainSpec) :=
  OpenClaim.holds_of_wide 4 Tryz.f4 rfl rfl rfl rfl rfl rfl rfl ⟨rfl, rfl, rfl, rfl, rfl⟩ rfl rfl rfl rfl rfl (by kernel_rfl) Tryz.func4 (by kernel_rfl)
    (of_decide_eq_true (by kernel_rfl)) (by unfold Func.isWrapper; first | (rw [if_pos (by decide +kernel)]; kernel_rfl) | (rw [if_neg (by decide +kernel)]; exact ⟨rfl, rfl⟩))
    (fun os started H enc _ => lifted os started H enc)

theorem proved : Rows.ParseAgainSaid := over
#print axioms proved
end Go.Proofs.YteefodibpjgicaaGreat.parseAgain
