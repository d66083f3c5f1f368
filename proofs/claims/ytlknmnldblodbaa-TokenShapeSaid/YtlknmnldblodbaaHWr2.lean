/- A text over joined ones: Wr2. -/
import Derived.StillTailTactics
import Derived.Test.YtlknmnldblodbaaH1
import Derived.Test.YtlknmnldblodbaaH2
import Derived.Test.YtlknmnldblodbaaH3
import Derived.Test.YtlknmnldblodbaaH4
import Derived.Test.YtlknmnldblodbaaH5
import Derived.Test.YtlknmnldblodbaaH6
import Derived.Test.YtlknmnldblodbaaHMath5g
/- Package write: an element, nodes, texts alone. -/
namespace Go.Proofs.Ytlknmnldblodbaa
open Go.RowKit

theorem fitN_mem {x : Nd} {l : List Nd} (h : FitN l) (hx : x ∈ l) : Fit1 x ∧ FitN x.kids := by
  induction l with
  | nil => cases hx
  | cons y r ih =>
    obtain ⟨h1, h2, h3⟩ := fitN_cons.1 h
    rcases List.mem_cons.1 hx with rfl | hx
    · exact ⟨h1, h2⟩
    · exact ih h3 hx
theorem RepN.look {S : Nat → Prop} {w w' : World} {a : Option Addr} {n cap : Nat} {l : List Nd} {B : Nat} (h : RepN S w (.slice a n cap) l) (hS : ∀ b, S b → b < B) (hw : Below B w w') (i : Nat) (hi : i < l.length) :
    ∃ b off va vk, a = some ⟨b, off, none⟩ ∧ S b ∧ w'.cell? ⟨b, off + i * 5, none⟩ = some (.int .i64 l[i].kind) ∧ w'.cell? ⟨b, off + i * 5 + 1, none⟩ = some (.string l[i].name) ∧ w'.cell? ⟨b, off + i * 5 + 2, none⟩ = some va ∧
      w'.cell? ⟨b, off + i * 5 + 3, none⟩ = some (.string l[i].text) ∧ w'.cell? ⟨b, off + i * 5 + 4, none⟩ = some vk ∧ RepV S w l[i] va vk := by
  obtain ⟨b, off, va, vk, h1, h2, c0, c1, c2, c3, c4, h3⟩ := h.at_ i hi
  have hb := hS b h2
  have k := fun o => hw.cell (p := ⟨b, o, none⟩) hb
  exact ⟨b, off, va, vk, h1, h2, (k _).trans c0, (k _).trans c1, (k _).trans c2, (k _).trans c3, (k _).trans c4, h3⟩

theorem plainT_len (l : List Nd) : FitN l → (M4.plainT l).length ≤ M3.weight l * 4294967296 := by
  induction l using Nd.ind with
  | h0 => intro _; rw [M4.plainT_nil]; simp
  | h1 k n ats t ks r ih1 ih2 =>
    intro hf
    obtain ⟨f1, f2, f3⟩ := fitN_cons.1 hf
    rw [M4.plainT_cons, M3.weight_cons, List.length_append]
    have h2 := ih2 f3
    have h1 := ih1 f2
    have h9 : t.data.toList.length ≤ 268435456 := f1.2.1
    have h10 : (M4.plain1 (.mk k n ats t ks)).length ≤ (1 + M3.weight ks) * 4294967296 := by
      unfold M4.plain1
      rw [List.length_append]
      show _ + (M4.plainT ks).length ≤ _
      split
      · show t.data.toList.length + _ ≤ _; omega
      · rw [List.length_nil]; omega
    simp only [Nd.attrs, Nd.kids] at *
    omega


end Go.Proofs.Ytlknmnldblodbaa

