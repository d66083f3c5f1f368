/- Layer 3's own example at the end of each law. -/
import Derived.Test.YtjelmpajphajfaaDom7
namespace Go.Proofs.Ytjelmpajphajfaa
open Go.RowKit

/-- The example's nodes. -/
def liveT : Nd := .mk 2 ⟨#[]⟩ [] ⟨#[120]⟩ []
def liveN : Nd := .mk 1 ⟨#[97]⟩ [⟨⟨#[105, 100]⟩, ⟨#[49]⟩⟩] ⟨#[]⟩ [liveT]
theorem live_fit : FitN [liveN] := by
  have h1 : M3.weight liveT.kids = 0 := by show M3.weight [] = 0; rw [M3.weight_nil]
  have h2 : M3.weight liveN.kids = 1 := by show M3.weight [liveT] = 1; rw [M3.weight_cons, h1, M3.weight_nil]; rfl
  refine fitN_cons.2 ⟨⟨by decide, by decide, ?_, by rw [h2]; decide⟩, fitN_cons.2 ⟨⟨by decide, by decide, ?_, by rw [h1]; decide⟩, fitN_nil, fitN_nil⟩, fitN_nil⟩
  · intro a ha; simp [liveN, Nd.attrs] at ha; subst ha; exact ⟨by decide, by decide⟩
  · intro a ha; simp [liveT, Nd.attrs] at ha
theorem live_weight : M3.weight [liveN] = 3 := by
  rw [M3.weight_cons, M3.weight_nil]
  show 1 + 1 + M3.weight [liveT] + 0 = 3
  rw [M3.weight_cons, M3.weight_nil]
  show 1 + 1 + (1 + 0 + M3.weight [] + 0) + 0 = 3
  rw [M3.weight_nil]
theorem isB_low (c : UInt8) (t : List UInt8) (h : c.toNat < 128) (h0 : c.toNat ≠ 0) (h13 : c.toNat ≠ 13) : M1.isB (c :: t) = M1.isB t := by
  rw [M1.isB_step _ (by simp), M2.dec_lo c t h]
  have h3 : c.toNat ≠ 65533 := by omega
  simp [h0, h13, h3]
theorem nilB_data (s : ByteArray) : M3.nilB s = s.data.toList.isEmpty := by unfold M3.nilB; rw [Lib.toList_data]
theorem mayE_ok {p : Bool} {x : Nd} {r : List Nd} (h1 : M3.oneE x p = 0) (h2 : M3.mayE false x.kids = 0) (h3 : M3.mayE (x.kind == 2) r = 0) : M3.mayE p (x :: r) = 0 := by
  rw [M3.mayE_cons]
  simp [h1, h2, h3]
theorem live_may : M3.mayE false [liveN] = 0 := by
  have e1 : M1.isB [120] = true := by rw [isB_low _ _ (by decide) (by decide) (by decide), M1.isB_nil]
  have e2 : M1.isB [105, 100] = true := by rw [isB_low _ _ (by decide) (by decide) (by decide), isB_low _ _ (by decide) (by decide) (by decide), M1.isB_nil]
  have e3 : M1.isB [49] = true := by rw [isB_low _ _ (by decide) (by decide) (by decide), M1.isB_nil]
  have t1 : M3.oneE liveT false = 0 := by
    show M3.oneE (.mk 2 ⟨#[]⟩ [] ⟨#[120]⟩ []) false = 0
    rw [M3.oneE_mk]
    have : M1.isB (⟨#[120]⟩ : ByteArray).data.toList = true := e1
    unfold M3.oneF M3.kindlyF M3.plainF
    rw [this, nilB_data, nilB_data]
    decide
  have a1 : M3.attributedB [105, 100] = true := by
    unfold M3.attributedB
    rw [e2]
    decide
  have n1 : M3.namesE [] [⟨⟨#[105, 100]⟩, ⟨#[49]⟩⟩] = 0 := by
    rw [M3.namesE]
    have : M3.attributedB (⟨#[105, 100]⟩ : ByteArray).data.toList = true := a1
    rw [this]
    rfl
  have v1 : M3.valuesE [⟨⟨#[105, 100]⟩, ⟨#[49]⟩⟩] = 0 := by
    rw [M3.valuesE]
    have : M1.isB (⟨#[49]⟩ : ByteArray).data.toList = true := e3
    rw [this]
    rfl
  have t2 : M3.oneE liveN false = 0 := by
    show M3.oneE (.mk 1 ⟨#[97]⟩ [⟨⟨#[105, 100]⟩, ⟨#[49]⟩⟩] ⟨#[]⟩ [liveT]) false = 0
    rw [M3.oneE_mk]
    unfold M3.oneF M3.elemF M3.kindlyF
    rw [n1, v1, nilB_data]
    rfl
  exact mayE_ok t2 (mayE_ok t1 (M3.mayE_nil _) (M3.mayE_nil _)) (M3.mayE_nil _)

theorem Row.fresh {S : Nat → Prop} {w : World} {g : Nat} {e : TypeId} {cs : List Value} {k n : Nat} (h : Box w g e cs) (hS : S g) (hn : cs.length = n * k) (hl : n ≤ 1000000) : Row S w k (.slice (some ⟨g, 0, none⟩) n n) n cs :=
  ⟨hn, _, n, rfl, Nat.le_refl _, by omega, (fun h => by cases h), fun _ => ⟨g, 0, rfl, hS, fun j u hu => by rw [Nat.zero_add]; exact h.cell hu⟩⟩

set_option maxHeartbeats 1000000 in
set_option maxRecDepth 100000 in
theorem lives03 (w : World) : Calls Try.prog 18 #[] w fun e w' => e = .returned (.bool true) ∧ Below w.heap.size w w' := by
  have b0 := ((Box.new w 44 [.string ⟨#[105, 100]⟩, .string ⟨#[49]⟩]).alloc (.cells #[.int .i64 2, .string ⟨#[]⟩, .slice none 0 0, .string ⟨#[120]⟩, .slice none 0 0] 28)).alloc (.cells #[.int .i64 1, .string ⟨#[97]⟩, .slice (some ⟨w.heap.size, 0, none⟩) 1 1, .string ⟨#[]⟩, .slice (some ⟨w.heap.size + 1, 0, none⟩) 1 1] 28)
  have b1 := (Box.new (w.alloc (.cells #[.string ⟨#[105, 100]⟩, .string ⟨#[49]⟩] 44)) 28 [.int .i64 2, .string ⟨#[]⟩, .slice none 0 0, .string ⟨#[120]⟩, .slice none 0 0]).alloc (.cells #[.int .i64 1, .string ⟨#[97]⟩, .slice (some ⟨w.heap.size, 0, none⟩) 1 1, .string ⟨#[]⟩, .slice (some ⟨w.heap.size + 1, 0, none⟩) 1 1] 28)
  have b2 := Box.new ((w.alloc (.cells #[.string ⟨#[105, 100]⟩, .string ⟨#[49]⟩] 44)).alloc (.cells #[.int .i64 2, .string ⟨#[]⟩, .slice none 0 0, .string ⟨#[120]⟩, .slice none 0 0] 28)) 28 [.int .i64 1, .string ⟨#[97]⟩, .slice (some ⟨w.heap.size, 0, none⟩) 1 1, .string ⟨#[]⟩, .slice (some ⟨w.heap.size + 1, 0, none⟩) 1 1]
  simp only [World.size_alloc] at b1 b2
  have hB : Below w.heap.size w (((w.alloc (.cells #[.string ⟨#[105, 100]⟩, .string ⟨#[49]⟩] 44)).alloc (.cells #[.int .i64 2, .string ⟨#[]⟩, .slice none 0 0, .string ⟨#[120]⟩, .slice none 0 0] 28)).alloc (.cells #[.int .i64 1, .string ⟨#[97]⟩, .slice (some ⟨w.heap.size, 0, none⟩) 1 1, .string ⟨#[]⟩, .slice (some ⟨w.heap.size + 1, 0, none⟩) 1 1] 28)) :=
    (((Below.refl _ w).alloc (Nat.le_refl _) _).alloc (by simp) _).alloc (by simp; omega) _
  go_enter Try.func18, Try.ntmps18
  go_wp2_with (fail)
  obtain ⟨W, hW⟩ : ∃ W, ((w.alloc (.cells #[.string ⟨#[105, 100]⟩, .string ⟨#[49]⟩] 44)).alloc (.cells #[.int .i64 2, .string ⟨#[]⟩, .slice none 0 0, .string ⟨#[120]⟩, .slice none 0 0] 28)).alloc (.cells #[.int .i64 1, .string ⟨#[97]⟩, .slice (some ⟨w.heap.size, 0, none⟩) 1 1, .string ⟨#[]⟩, .slice (some ⟨w.heap.size + 1, 0, none⟩) 1 1] 28) = W := ⟨_, rfl⟩
  change Box (((w.alloc (.cells #[.string ⟨#[105, 100]⟩, .string ⟨#[49]⟩] 44)).alloc (.cells #[.int .i64 2, .string ⟨#[]⟩, .slice none 0 0, .string ⟨#[120]⟩, .slice none 0 0] 28)).alloc (.cells #[.int .i64 1, .string ⟨#[97]⟩, .slice (some ⟨w.heap.size, 0, none⟩) 1 1, .string ⟨#[]⟩, .slice (some ⟨w.heap.size + 1, 0, none⟩) 1 1] 28)) _ _ _ at b0 b1 b2
  rw [hW] at b0 b1 b2 hB ⊢
  clear hW
  have hR : RepN (fun b => b < W.heap.size) W (.slice (some ⟨w.heap.size + 1 + 1, 0, none⟩) 1 1) [liveN] := by
    refine ⟨_, Row.fresh b2 b2.lt rfl (by decide), RepC.cons_iff.2 ⟨_, _, _, rfl, Row.fresh b0 b0.lt rfl (by decide), ⟨_, Row.fresh b1 b1.lt rfl (by decide), ?_⟩, RepC.nil _ _⟩⟩
    exact RepC.cons_iff.2 ⟨_, _, _, rfl, Row.nil _ _ _, RepN.nil _ _, RepC.nil _ _⟩
  have hWt := Lib.hid (domWeight _ _ _ W (fun b h => h) hR live_fit (by rw [live_weight]; decide))
  have hMy := Lib.hid (fun W' hS hR => domMay (fun b => b < W.heap.size) (.slice (some ⟨w.heap.size + 1 + 1, 0, none⟩) 1 1) [liveN] W' hS hR live_fit)
  rw [live_weight] at hWt
  rw [live_may] at hMy
  refine hWt.out.mono ?_
  rintro e w1 ⟨rfl, hb1⟩
  have hR1 := hR.below (fun b h => h) hb1
  clear b0 b1 b2 hWt
  go_wp2_with (fail)
  refine (hMy.out w1 (fun b h => by have := hb1.size; omega) hR1).mono ?_
  rintro e w2 ⟨rfl, hb2⟩
  have hv : M3.voidB [98, 114] = true := by decide
  have hrw : M3.rawB [115, 116, 121, 108, 101] = true := by decide
  have hVd := Lib.hid (domVoid ⟨#[98, 114]⟩)
  have hRw := Lib.hid (domRaw ⟨#[115, 116, 121, 108, 101]⟩)
  go_wp2_with (fail)
  refine (hVd.out _).mono ?_
  rintro e w3 ⟨rfl, hw3⟩
  rw [hw3]
  clear hw3 w3
  go_wp2_with (fail)
  refine (hRw.out _).mono ?_
  rintro e w3 ⟨rfl, hw3⟩
  rw [hw3]
  clear hw3 w3
  go_wp2
  go_ret
  exact ⟨rfl, (hB.trans (hb1.mono hB.size)).trans (hb2.mono (by have := hb1.size; have := hB.size; omega))⟩
end Go.Proofs.Ytjelmpajphajfaa
