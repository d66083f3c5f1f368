/- A text over joined ones: Law07s. -/
import Derived.Test.YtkobnegpllfpkaaH1
import Derived.Test.YtkobnegpllfpkaaH2
import Derived.Test.YtkobnegpllfpkaaH3
import Derived.Test.YtkobnegpllfpkaaH4
import Derived.Test.YtkobnegpllfpkaaH5
import Derived.Test.YtkobnegpllfpkaaH6
import Derived.Test.YtkobnegpllfpkaaH7
import Derived.Test.YtkobnegpllfpkaaHMath7c
/- Layer 7's statements: BuildShape. -/
namespace Go.Proofs.Ytkobnegpllfpkaa
open Go.RowKit Go.Maps

set_option maxHeartbeats 8000000 in
set_option maxRecDepth 100000 in
theorem law07BuildShape (S : Nat → Prop) (v : Value) (l : List Tok) (w : World) (hS : ∀ b, S b → b < w.heap.size) (hr : TokR S w v l) (hsz : SzT l) :
    Calls Try.prog 5 #[v] w fun e w' => e = .returned (.bool true) ∧ Below w.heap.size w w' := by
  have hC := Lib.hid (ref07Cut S v l w hS hr hsz)
  have hft := Lib.hid (cut_fit7 hsz)
  have hw := Lib.hid (cut_weight7 l)
  have hsh := Lib.hid (M7.tree_shape (M7.cutT l))
  obtain ⟨wo, rfl⟩ : ∃ wo : World, wo = w := ⟨_, rfl⟩
  go_enter Try.func5, Try.ntmps5
  go_wp2_with fail
  refine hC.out.mono ?_
  rintro e w1 ⟨v1, rfl, hT, hb1⟩
  replace hT := TokR.of hT
  have hz1 := hb1.size
  generalize M7.cutT l = c at *
  obtain ⟨a1, k1, rfl⟩ := hT.slice
  have hTr := Lib.hid (bTree _ (.slice a1 c.length k1) c w1 (fun b hb => hb.2) hT hft.out)
  clear hC hT
  go_wp2_with fail
  refine hTr.out.mono ?_
  rintro e w2 ⟨v2, rfl, hf2, hb2⟩
  have hR := hf2.rep
  obtain ⟨a2, k2, rfl⟩ := hR.slice
  have hSh := Lib.hid (law07shaped (M3.weight (M7.tree c) + 1) _ ⟨#[]⟩ _ _ w2 (by omega) (by have := hw.out; omega) (fun b h => h.2) hR)
  have hb02 : Below wo.heap.size wo w2 := bt hb1 hb2
  clear hR hf2
  go_wp2_with fail
  refine hSh.out.mono ?_
  rintro e w3 ⟨rfl, hb3⟩
  rw [hsh.out]
  have hL := Lib.hid (fun W => lives07 W)
  have hb03 := bt hb02 hb3
  go_wp2_with fail
  refine (hL.out _).mono ?_
  rintro e w4 ⟨rfl, hb4⟩
  have hb04 := bt hb03 hb4
  go_wp2_with fail
  go_ret
  exact ⟨rfl, hb04⟩
end Go.Proofs.Ytkobnegpllfpkaa

