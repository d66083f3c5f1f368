/- What came in: a row of numbers as a slice that reads; a text as bytes and back; frames one behind the other. -/
import Derived.Test.YtjelmpajphajfaaKit
import Derived.Test.YtjelmpajphajfaaMath1
import Derived.Test.YtjelmpajphajfaaRows
namespace Go.Proofs.Ytjelmpajphajfaa
open Go.RowKit

theorem add_plain' (b off j : Nat) : (⟨b, off, none⟩ : Addr).add j = ⟨b, off + j, none⟩ := by unfold Addr.add; split <;> simp_all

theorem sl_row {k : IntKind} {w : World} {x : Addr} {len cap : Nat} {zs : List Int} (hl : len ≤ cap) (hm : cap ≤ maxLen) (hz : zs.length = cap) (hc : ∀ i, i < zs.length → w.cell? (x.add i) = some (.int k (zs.getD i 0))) :
    Sl w (.slice (some x) len cap) ((zs.take len).map (Value.int k)) := by
  have hlen : ((zs.take len).map (Value.int k)).length = len := by simp; omega
  unfold maxLen at hm
  refine ⟨some x, cap, by rw [hlen], by rw [hlen]; exact hl, by omega, (fun h => by cases h), fun hne => ?_⟩
  have hpos : 0 < len := by
    rcases Nat.eq_zero_or_pos len with h | h
    · subst h; simp at hne
    · exact h
  obtain ⟨b, off, spot⟩ := x
  have hspot : spot = none := by simpa [Addr.add] using World.cell?_spot (hc 0 (by omega))
  subst hspot
  refine ⟨b, off, rfl, fun j hj => ?_⟩
  rw [hlen] at hj
  have h := hc j (by omega)
  rw [add_plain'] at h
  rw [h]
  simp [List.getD_eq_getElem?_getD, List.getElem?_eq_getElem (show j < zs.length by omega)]

theorem sl_row8 {w : World} {x : Addr} {len cap : Nat} {zs : List Int} (hl : len ≤ cap) (hm : cap ≤ maxLen) (hz : zs.length = cap) (hc : ∀ i, i < zs.length → w.cell? (x.add i) = some (.int .u8 (zs.getD i 0))) (hw : ∀ n ∈ zs, (Lit.int .u8 n).wf = true) :
    Sl w (.slice (some x) len cap) (u8s ((zs.take len).map fun n => n.toNat.toUInt8)) := by
  have h := sl_row hl hm hz hc
  have e : u8s ((zs.take len).map fun n => n.toNat.toUInt8) = (zs.take len).map (Value.int .u8) := by
    simp only [u8s, Lib.byteCells, List.map_map]
    apply List.map_congr_left
    intro n hn
    have h1 := hw n (List.mem_of_mem_take hn)
    have h2 : IntKind.u8.min = 0 := rfl
    have h3 : IntKind.u8.max = 255 := rfl
    simp only [Lit.wf, Bool.and_eq_true, decide_eq_true_eq, h2, h3] at h1
    have h4 := M1.toNat_u8 n.toNat (by omega)
    simp only [Function.comp, h4]
    congr 1
    omega
  rw [e]; exact h

theorem Sl.fresh' (w : World) (e : TypeId) (xs : List Value) (n : Nat) (hn : xs.length = n) (h : n ≤ 4000) : Sl (w.alloc (.cells xs.toArray e)) (.slice (some ⟨w.heap.size, 0, none⟩) n n) xs := by
  subst hn
  refine ⟨_, xs.length, rfl, Nat.le_refl _, by omega, (fun h => by cases h), fun _ => ⟨_, 0, rfl, fun j hj => ?_⟩⟩
  rw [Nat.zero_add, World.cell?_alloc_at _ _ _ _ rfl]
  simp [hj]


theorem bt {w w1 w2 : World} (h : Below w.heap.size w w1) (k : Below w1.heap.size w1 w2) : Below w.heap.size w w2 := h.trans (k.mono h.size)

/-- What '[]byte(s)' leaves, said without the row's size. -/
theorem conv_bytes (w : World) (s : ByteArray) (hs : s.size ≤ 9223372036854775807) : ∃ v w', (convert 9 38 (.string s)).run Try.prog w = .ok v w' ∧ Sl w' v (u8s s.data.toList) ∧ Below w.heap.size w w' :=
  ⟨_, _, Lib.run_convert_string_bytes (P := Try.prog) w 9 38 5 s Try.underlying9 Try.underlying38 Try.underlying5, Sl.bytes w 5 s hs, below_bytesWorld w 5 s⟩
theorem conv_back {w : World} {v : Value} {l : List UInt8} (h : Sl w v (u8s l)) : (convert 38 9 v).run Try.prog w = .ok (.string ⟨l.toArray⟩) w :=
  h.toString 38 9 5 Try.underlying38 Try.underlying5 Try.underlying9
end Go.Proofs.Ytjelmpajphajfaa
