/- A text over joined ones: Law05c. -/
import Derived.Test.YtlknmnldblodbaaH1
import Derived.Test.YtlknmnldblodbaaH2
import Derived.Test.YtlknmnldblodbaaH3
import Derived.Test.YtlknmnldblodbaaH4
import Derived.Test.YtlknmnldblodbaaH5
import Derived.Test.YtlknmnldblodbaaH6
import Derived.Test.YtlknmnldblodbaaHMath5g
import Derived.Test.YtlknmnldblodbaaHWr2
import Derived.Test.YtlknmnldblodbaaHRef04
/- Statement TokenChars. -/
namespace Go.Proofs.Ytlknmnldblodbaa
open Go.RowKit

theorem Row.freshN5 {w : World} {S : Nat → Prop} {g k : Nat} {t : TypeId} {cs : List Value} (h : Box w g t cs) (hS : S g) (hl : cs.length = k) : Row S w k (.slice (some ⟨g, 0, none⟩) 1 1) 1 cs :=
  ⟨by omega, some ⟨g, 0, none⟩, 1, rfl, Nat.le_refl _, by omega, (fun e => nomatch e), fun _ => ⟨g, 0, rfl, hS, fun j u hu => by rw [Nat.zero_add]; exact h.cell hu⟩⟩
set_option maxHeartbeats 4000000 in
set_option maxRecDepth 100000 in
theorem law05TokenChars (v : Value) (l : List UInt8) (w : World) (hg : Glo w) (hs : Sl w v (u8s l)) : Calls Try.prog 7 #[v] w fun e w' => e = .returned (.bool true) ∧ Below w.heap.size w w' := by
  have hF := Lib.hid (few05 v l w hs)
  have hz : (fewB l).length ≤ 1200 := fewB_len l
  generalize fewB l = L at *
  obtain ⟨s, hse⟩ : ∃ s, Hid (s = M5.bs L) := ⟨_, rfl⟩
  have hsz : s.size = L.length := by rw [hse.out, bs_size]
  have hsd : s.data.toList = L := by rw [hse.out, M5.bs_data]
  rw [← hse.out] at hF
  obtain ⟨a, cap, rfl, hlc, hcm⟩ := hs.len8
  clear hs
  have htx : M4.textB false [Nd.mk 2 ⟨#[]⟩ [] s []] = M2.escape false L := by
    rw [M4.textB_cons, M4.textB_nil, List.append_nil, M4.oneB_2 rfl, ← hsd]
    rfl
  have hel := M2.escape_len false L
  have hfit : FitN [Nd.mk 2 ⟨#[]⟩ [] s []] := fitN_cons.2 ⟨⟨Nat.zero_le _, by show s.size ≤ _; omega, (fun a ha => nomatch ha), by show 1 + 0 + M3.weight [] ≤ 1000000; rw [M3.weight_nil]; omega⟩, fitN_nil, fitN_nil⟩
  have hTx : Hid (∀ (W : World) (g : Nat), Box W g 40 [.int .i64 2, .string ⟨#[]⟩, .slice none 0 0, .string s, .slice none 0 0] → Calls Try.prog 25 #[.slice (some ⟨g, 0, none⟩) 1 1] W (fun e w' => e = .returned (.string (M5.bs (M2.escape false L))) ∧ Below W.heap.size W w')) := Lib.hid (fun W g hb => by
    have := ref04Text (fun b => b < W.heap.size) (.slice (some ⟨g, 0, none⟩) 1 1) [Nd.mk 2 ⟨#[]⟩ [] s []] W (fun b h => h) ⟨_, Row.freshN5 hb hb.lt rfl, RepC.cons_iff.2 ⟨.slice none 0 0, .slice none 0 0, [], rfl, Row.nil _ _ _, RepN.nil _ _, RepC.nil _ _⟩⟩ hfit (by rw [htx]; omega)
    rw [htx] at this
    exact this)
  have hTk := fun (w : World) (hg : Glo w) => tokTokens (M5.bs (M2.escape false L)) w hg (by rw [bs_size]; omega)
  rw [M5.bs_data] at hTk
  replace hTk := Lib.hid hTk
  replace hse := Lib.hid hse
  replace htx := Lib.hid htx
  replace hel := Lib.hid hel
  obtain ⟨wo, rfl⟩ : ∃ wo : World, wo = w := ⟨_, rfl⟩
  clear hfit
  by_cases hL : L = []
  · have hem : s.toList.isEmpty = true := isEmpty_yes s (by rw [hsz, hL]; rfl)
    have hT : M5.tokens (M2.escape false L) = [] := by rw [hL]; rfl
    rw [hT] at hTk
    replace hL := Lib.hid hL
    go_enter Try.func7, Try.ntmps7
    go_wp2_with fail
    refine hF.out.mono ?_
    rintro e1 w1 ⟨rfl, hb1⟩
    have bn := Box.new w1 40 [.int .i64 2, .string ⟨#[]⟩, .slice none 0 0, .string s, .slice none 0 0]
    have hb1' := hb1.alloc hb1.size (.cells #[.int .i64 2, .string ⟨#[]⟩, .slice none 0 0, .string s, .slice none 0 0] 40)
    go_wp2_with fail
    refine (hTx.out _ _ bn).mono ?_
    rintro e1 w2 ⟨rfl, hb2⟩
    have hb12 := bt hb1' hb2
    go_wp2_with fail
    refine (hTk.out _ (hg.below hb12 (Nat.le_refl _))).mono ?_
    rintro e1 w3 ⟨v3, rfl, hl3, hb3⟩
    have hb13 := bt hb12 hb3
    obtain ⟨a3, c3, rfl⟩ := hl3.slice
    go_wp2_with fail
    refine (lives05 _ (hg.below hb13 (Nat.le_refl _))).mono ?_
    rintro e1 w6 ⟨rfl, hb6⟩
    go_wp2_with fail
    go_ret
    exact ⟨rfl, bt hb13 hb6⟩
  · have hem : s.toList.isEmpty = false := isEmpty_no s (by have := List.length_pos_iff.2 hL; omega)
    have hT := M5.tokens_written L hL
    rw [← hse.out.out] at hT
    rw [hT] at hTk
    replace hL := Lib.hid hL
    replace hT := Lib.hid hT
    go_enter Try.func7, Try.ntmps7
    go_wp2_with fail
    refine hF.out.mono ?_
    rintro e1 w1 ⟨rfl, hb1⟩
    have bn := Box.new w1 40 [.int .i64 2, .string ⟨#[]⟩, .slice none 0 0, .string s, .slice none 0 0]
    have hb1' := hb1.alloc hb1.size (.cells #[.int .i64 2, .string ⟨#[]⟩, .slice none 0 0, .string s, .slice none 0 0] 40)
    go_wp2_with fail
    refine (hTx.out _ _ bn).mono ?_
    rintro e1 w2 ⟨rfl, hb2⟩
    have hb12 := bt hb1' hb2
    go_wp2_with fail
    refine (hTk.out _ (hg.below hb12 (Nat.le_refl _))).mono ?_
    rintro e1 w3 ⟨v3, rfl, hl3, hb3⟩
    have hb13 := bt hb12 hb3
    obtain ⟨a3, c3, rfl⟩ := hl3.slice
    obtain ⟨xs, hrow, hrep⟩ := hl3.rows
    obtain ⟨b, off, va, rfl, _, q0, p0, p1, p2, p3⟩ := hrow.atT hrep 0 (by show 0 < 1; omega)
    simp only [List.getElem_cons_zero, Nat.zero_mul, Nat.add_zero] at p0 p1 p2 p3
    clear hrow hrep q0
    go_wp2_with fail
    refine (lives05 _ (hg.below hb13 (Nat.le_refl _))).mono ?_
    rintro e1 w6 ⟨rfl, hb6⟩
    go_wp2_with fail
    go_ret
    exact ⟨rfl, bt hb13 hb6⟩
end Go.Proofs.Ytlknmnldblodbaa

