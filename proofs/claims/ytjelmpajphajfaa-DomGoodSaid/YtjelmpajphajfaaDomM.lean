/- Package dom: nodes without empty texts; the texts that nodes begin with. -/
import Derived.Test.YtjelmpajphajfaaRef03m
namespace Go.Proofs.Ytjelmpajphajfaa
open Go.RowKit

def filledV (L : List NV) : List NV := L.filter fun b => !(bareV b)
theorem filledV_snoc (L : List NV) (b : NV) : filledV (L ++ [b]) = if bareV b then filledV L else filledV L ++ [b] := by
  unfold filledV
  rw [List.filter_append]
  cases h : bareV b <;> simp [h]
theorem filledV_map (L : List NV) : (filledV L).map NV.x = M3.filled (L.map NV.x) := by
  unfold filledV M3.filled
  rw [List.filter_map]
  rfl
theorem filledV_len (L : List NV) : (filledV L).length ≤ L.length := List.length_filter_le _ _

set_option maxHeartbeats 4000000 in
set_option maxRecDepth 100000 in
theorem domFilledV (S : Nat → Prop) (v : Value) (L : List NV) (w : World) (hS : ∀ b, S b → b < w.heap.size) (hr : Row S w 5 v L.length (cellsV L)) (hok : ∀ b ∈ L, b.ok) (hl : L.length ≤ 1000000) :
    Calls Try.prog 52 #[v] w (ShPost (filledV L) w) := by
  obtain ⟨a, cap, rfl⟩ := hr.slice
  obtain ⟨_, hlc, hcm⟩ := hr.len
  replace hok := Lib.hid hok
  go_enter Try.func52, Try.ntmps52
  go_wp2_with (fail)
  go_loopw [3, 8] (fun u3 u8 wr => ∃ (i : Nat) (A : List NV), i ≤ L.length ∧ u8 = .int .i64 (i : Int) ∧ Hid (A = filledV (L.take i)) ∧ wr.ownsRow w.heap.size 28 5 u3 A.length (cellsV A) ∧ Below w.heap.size w wr) (fun _ u8 _ => L.length - (intOf u8).toNat)
  case atStart => exact ⟨0, [], by omega, rfl, rfl, World.ownsRow_nil _ _ _ _, Below.refl _ _⟩
  case round =>
    obtain ⟨i, A, hi, rfl, hA, hown, hb⟩ := hrel
    have hz := hb.size
    have hAl : A.length ≤ 1000000 := by rw [hA.out]; have := filledV_len (L.take i); have := List.length_take_le i L; omega
    by_cases hlt : i < L.length
    · obtain ⟨b, off, rfl, hSb, c0, c1, c2, c3, c4⟩ := (hr.below hS hb).atV i hlt
      have hbl := hS b hSb
      have htk : L.take (i + 1) = L.take i ++ [L[i]] := List.take_succ_eq_append_getElem hlt
      have hA2 : Hid (filledV (L.take (i + 1)) = if bareV L[i] then A else A ++ [L[i]]) := by show _ = _; rw [htk, filledV_snoc, hA.out]
      have hkx := hok.out _ (List.getElem_mem hlt)
      clear hA htk
      generalize L[i] = x at *
      obtain ⟨⟨k, n, ats, t, ks⟩, va, vk⟩ := x
      obtain ⟨⟨a1, e1, hva⟩, a2, e2, hvk⟩ := hkx
      simp only [Nd.kind, Nd.name, Nd.text, Nd.attrs, Nd.kids] at c0 c1 c2 c3 c4 hva hvk
      subst hva
      subst hvk
      have hbare : bareV ⟨.mk k n ats t ks, .slice a1 ats.length e1, .slice a2 ks.length e2⟩ = ((k == 2) && t.toList.isEmpty) := rfl
      rw [hbare] at hA2
      clear hbare
      have hbx : Below w.heap.size w (wr.alloc (.cells #[.int .i64 k, .string n, .slice a1 ats.length e1, .string t, .slice a2 ks.length e2] 28)) := hb.alloc hz _
      have hownx := hown.alloc (.cells #[.int .i64 k, .string n, .slice a1 ats.length e1, .string t, .slice a2 ks.length e2] 28)
      have hsx : (wr.alloc (.cells #[.int .i64 k, .string n, .slice a1 ats.length e1, .string t, .slice a2 ks.length e2] 28)).heap.size = wr.heap.size + 1 := by simp
      have hsy : w.heap.size ≤ (wr.alloc (.cells #[.int .i64 k, .string n, .slice a1 ats.length e1, .string t, .slice a2 ks.length e2] 28)).heap.size := by omega
      replace hsx := Lib.hid hsx
      cases hk : (k == 2)
      · have hk2 : (k != 2) = true := by simp [bne, hk]
        rw [hk] at hA2
        simp only [Bool.false_and, Bool.false_eq_true, if_false] at hA2
        go_wp2_with (at_builtin; refine wpList_appK _ [.int .i64 k, .string n, .slice a1 ats.length e1, .string t, .slice a2 ks.length e2] 5 rfl _ _ 22 28 rfl w.heap.size Try.underlying22 infoN rfl (by omega) _ A.length (cellsV A) rfl hownx (wr.heap.size + 1) hsx.out (by rfl) rfl (five_one _ _ _ _ _ _ _ _ _) (by omega) (by omega) hsy ?_; intro g cp w2 hown2 hgrow2 hat2)
        have hb2 := below_own hbx hownx hgrow2 hsy (Nat.le_refl _)
        have hown3 : w2.ownsRow w.heap.size 28 5 (.slice (some ⟨g, 0, none⟩) (A.length + 1) cp) (A ++ [(⟨.mk k n ats t ks, .slice a1 ats.length e1, .slice a2 ks.length e2⟩ : NV)]).length (cellsV (A ++ [(⟨.mk k n ats t ks, .slice a1 ats.length e1, .slice a2 ks.length e2⟩ : NV)])) := by
          rw [cellsV_snoc, List.length_append]; exact hown2
        clear hown2 hgrow2 hat2
        go_roundw
        case rel => exact ⟨i + 1, A ++ [(⟨.mk k n ats t ks, .slice a1 ats.length e1, .slice a2 ks.length e2⟩ : NV)], by omega, by go_num, Lib.hid hA2.out.symm, hown3, hb2⟩
        case measure => exact meas_nat hlt
      · obtain rfl : k = 2 := by simpa using hk
        clear hk
        cases hte : t.toList.isEmpty
        · rw [hte] at hA2
          simp only [Bool.and_false, Bool.false_eq_true, if_false] at hA2
          go_wp2_with (at_builtin; refine wpList_appK _ [.int .i64 2, .string n, .slice a1 ats.length e1, .string t, .slice a2 ks.length e2] 5 rfl _ _ 22 28 rfl w.heap.size Try.underlying22 infoN rfl (by omega) _ A.length (cellsV A) rfl hownx (wr.heap.size + 1) hsx.out (by rfl) rfl (five_one _ _ _ _ _ _ _ _ _) (by omega) (by omega) hsy ?_; intro g cp w2 hown2 hgrow2 hat2)
          have hb2 := below_own hbx hownx hgrow2 hsy (Nat.le_refl _)
          have hown3 : w2.ownsRow w.heap.size 28 5 (.slice (some ⟨g, 0, none⟩) (A.length + 1) cp) (A ++ [(⟨.mk 2 n ats t ks, .slice a1 ats.length e1, .slice a2 ks.length e2⟩ : NV)]).length (cellsV (A ++ [(⟨.mk 2 n ats t ks, .slice a1 ats.length e1, .slice a2 ks.length e2⟩ : NV)])) := by
            rw [cellsV_snoc, List.length_append]; exact hown2
          clear hown2 hgrow2 hat2
          go_roundw
          case rel => exact ⟨i + 1, A ++ [(⟨.mk 2 n ats t ks, .slice a1 ats.length e1, .slice a2 ks.length e2⟩ : NV)], by omega, by go_num, Lib.hid hA2.out.symm, hown3, hb2⟩
          case measure => exact meas_nat hlt
        · rw [hte] at hA2
          simp only [beq_self_eq_true, Bool.and_self, if_true] at hA2
          go_wp2_with (fail)
          go_roundw
          case rel => exact ⟨i + 1, A, by omega, by go_num, Lib.hid hA2.out.symm, hownx, hbx⟩
          case measure => exact meas_nat hlt
    · obtain rfl : i = L.length := by omega
      rw [List.take_length] at hA
      go_wp2_with (fail)
      go_ret
      exact ⟨u3, rfl, by rw [← hA.out]; exact hown, hb⟩
end Go.Proofs.Ytjelmpajphajfaa
