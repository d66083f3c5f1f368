/- The reference of layer 3: merged. -/
import Derived.Test.YtjelmpajphajfaaShal
import Derived.Test.YtjelmpajphajfaaRef02c
import Derived.StillTailTactics
namespace Go.Proofs.Ytjelmpajphajfaa
open Go.RowKit

/-- A row of nodes that the call has made; what stands in them is shared. -/
def ShPost (L : List NV) (w : World) (e : Ending) (w' : World) : Prop := ∃ v', e = .returned v' ∧ w'.ownsRow w.heap.size 28 5 v' L.length (cellsV L) ∧ Below w.heap.size w w'
theorem five_one (k : Int) (n t : ByteArray) (a1 a2 : Option Addr) (n1 c1 n2 c2 : Nat) : ∀ u ∈ ([.int .i64 k, .string n, .slice a1 n1 c1, .string t, .slice a2 n2 c2] : List Value), u.oneCell' = true := by simp [Value.oneCell']
theorem meas_nat {n k : Nat} (h : k < n) : n - (intOf (.int .i64 ((k : Int) + 1))).toNat < n - (intOf (.int .i64 (k : Int))).toNat := by
  show n - ((k : Int) + 1).toNat < n - (k : Int).toNat
  omega
theorem cat_eq (s t : ByteArray) : M3.cat s t = s ++ t := by
  have h := cat_mk s.data.toList t
  have e : (⟨s.data.toList.toArray⟩ : ByteArray) = s := by cases s; simp
  rw [e] at h
  rw [h]; rfl
theorem setText_cells (A : List NV) (y : NV) (t : ByteArray) (i : Nat) (h : i = A.length) : (cellsV (A ++ [y])).set (i * 5 + 3) (.string t) = cellsV (A ++ [y.withText t]) := by
  subst h
  rw [cellsV_snoc, cellsV_snoc]
  have h5 : (cellsV A).length = A.length * 5 := cellsV_len A
  rw [List.set_append_right _ _ (by omega), h5, show A.length * 5 + 3 - A.length * 5 = 3 by omega]
  obtain ⟨x, va, vk⟩ := y
  cases x
  rfl

set_option maxHeartbeats 4000000 in
set_option maxRecDepth 100000 in
theorem ref03MergeV (S : Nat → Prop) (v : Value) (L : List NV) (w : World) (hS : ∀ b, S b → b < w.heap.size) (hr : Row S w 5 v L.length (cellsV L)) (hok : ∀ b ∈ L, b.ok) (hl : L.length ≤ 1000000) (ht : txtV L ≤ 1073741824) :
    Calls Try.prog 28 #[v] w (ShPost (mergeV L) w) := by
  obtain ⟨a, cap, rfl⟩ := hr.slice
  obtain ⟨_, hlc, hcm⟩ := hr.len
  replace hok := Lib.hid hok
  go_enter Try.func28, Try.ntmps28
  go_wp2_with (fail)
  go_loopw [3, 4, 5] (fun u3 u4 u5 wr => ∃ (i : Nat) (A : List NV), i ≤ L.length ∧ u4 = .int .i64 (i : Int) ∧ Hid (A = mergeV (L.take i)) ∧ wr.ownsRow w.heap.size 28 5 u3 A.length (cellsV A) ∧ Below w.heap.size w wr) (fun _ u4 _ _ => L.length - (intOf u4).toNat)
  case atStart => exact ⟨0, [], by omega, rfl, rfl, World.ownsRow_nil _ _ _ _, Below.refl _ _⟩
  case round =>
    obtain ⟨i, A, hi, rfl, hA, hown, hb⟩ := hrel
    have hlen : ∀ W, (Builtin.len_ #[22] 3 #[u3]).run Try.prog W = .ok (.int .i64 (A.length : Int)) W := by
      obtain ⟨a3, cap3, rfl⟩ := own_slice hown
      exact fun _ => rfl
    have hz := hb.size
    have hAl : A.length ≤ 1000000 := by rw [hA.out]; have := (txtV_merge (L.take i)).2; have := List.length_take_le i L; omega
    have hAt : txtV A ≤ 1073741824 := by
      rw [hA.out]
      have h1 := (txtV_merge (L.take i)).1
      have h2 : txtV L = txtV (L.take i) + txtV (L.drop i) := by rw [← txtV_append, List.take_append_drop]
      omega
    by_cases hlt : i < L.length
    · obtain ⟨b, off, rfl, hSb, c0, c1, c2, c3, c4⟩ := (hr.below hS hb).atV i hlt
      have hbl := hS b hSb
      have htk : L.take (i + 1) = L.take i ++ [L[i]] := List.take_succ_eq_append_getElem hlt
      have hA2 : Hid (mergeV (L.take (i + 1)) = pushV A L[i]) := by show _ = _; rw [htk, mergeV_snoc, hA.out]
      have hxt := txtV_mem (List.getElem_mem hlt)
      have hkx := hok.out _ (List.getElem_mem hlt)
      clear hA htk
      generalize L[i] = x at *
      obtain ⟨⟨k, n, ats, t, ks⟩, va, vk⟩ := x
      obtain ⟨⟨a1, e1, hva⟩, a2, e2, hvk⟩ := hkx
      simp only [Nd.kind, Nd.name, Nd.text, Nd.attrs, Nd.kids] at c0 c1 c2 c3 c4 hxt hva hvk
      subst hva
      subst hvk
      have hbare : bareV ⟨.mk k n ats t ks, .slice a1 ats.length e1, .slice a2 ks.length e2⟩ = ((k == 2) && t.toList.isEmpty) := rfl
      cases hk : (k == 2)
      · -- no text
        rw [hk] at hbare
        have hp : pushV A ⟨.mk k n ats t ks, .slice a1 ats.length e1, .slice a2 ks.length e2⟩ = A ++ [(⟨.mk k n ats t ks, .slice a1 ats.length e1, .slice a2 ks.length e2⟩ : NV)] := by
          rcases List.eq_nil_or_concat A with rfl | ⟨o, y, rfl⟩
          · exact pushV_nil hbare
          · rw [List.concat_eq_append, pushV_snoc hbare]
            have h3 : M3.isText (.mk k n ats t ks) = false := hk
            rw [h3]; rfl
        rw [hp] at hA2
        clear hp hbare
        go_wp2_with (at_builtin; refine wpList_appK _ [.int .i64 k, .string n, .slice a1 ats.length e1, .string t, .slice a2 ks.length e2] 5 rfl _ _ 22 28 rfl w.heap.size Try.underlying22 infoN rfl (by omega) _ A.length (cellsV A) rfl hown _ rfl rfl rfl (five_one _ _ _ _ _ _ _ _ _) (by omega) (by omega) (by omega) ?_; intro g cp w2 hown2 hgrow2 hat2)
        have hb2 := below_own hb hown hgrow2 hz (Nat.le_refl _)
        have hown3 : w2.ownsRow w.heap.size 28 5 (.slice (some ⟨g, 0, none⟩) (A.length + 1) cp) (A ++ [(⟨.mk k n ats t ks, .slice a1 ats.length e1, .slice a2 ks.length e2⟩ : NV)]).length (cellsV (A ++ [(⟨.mk k n ats t ks, .slice a1 ats.length e1, .slice a2 ks.length e2⟩ : NV)])) := by
          rw [cellsV_snoc]; rw [List.length_append]; exact hown2
        clear hown2 hgrow2 hat2
        go_roundw
        case rel => exact ⟨i + 1, A ++ [(⟨.mk k n ats t ks, .slice a1 ats.length e1, .slice a2 ks.length e2⟩ : NV)], by omega, by go_num, Lib.hid hA2.out.symm, hown3, hb2⟩
        case measure => exact meas_nat hlt
      · obtain rfl : k = 2 := by simpa using hk
        clear hk
        cases hte : t.toList.isEmpty
        · rw [hte] at hbare
          rcases List.eq_nil_or_concat A with rfl | ⟨o, y, rfl⟩
          · rw [pushV_nil hbare] at hA2
            clear hbare
            go_wp2_with (at_builtin; refine wpList_appK _ [.int .i64 2, .string n, .slice a1 ats.length e1, .string t, .slice a2 ks.length e2] 5 rfl _ _ 22 28 rfl w.heap.size Try.underlying22 infoN rfl (by omega) _ 0 (cellsV []) rfl hown _ rfl rfl rfl (five_one _ _ _ _ _ _ _ _ _) (by omega) (by omega) (by omega) ?_; intro g cp w2 hown2 hgrow2 hat2)
            have hb2 := below_own hb hown hgrow2 hz (Nat.le_refl _)
            have hown3 : w2.ownsRow w.heap.size 28 5 (.slice (some ⟨g, 0, none⟩) (0 + 1) cp) ([] ++ [(⟨.mk 2 n ats t ks, .slice a1 ats.length e1, .slice a2 ks.length e2⟩ : NV)]).length (cellsV ([] ++ [(⟨.mk 2 n ats t ks, .slice a1 ats.length e1, .slice a2 ks.length e2⟩ : NV)])) := by
              rw [cellsV_snoc]; exact hown2
            clear hown2 hgrow2 hat2
            go_roundw
            case rel => exact ⟨i + 1, [] ++ [(⟨.mk 2 n ats t ks, .slice a1 ats.length e1, .slice a2 ks.length e2⟩ : NV)], by omega, by go_num, Lib.hid hA2.out.symm, hown3, hb2⟩
            case measure => exact meas_nat hlt
          · rw [List.concat_eq_append] at *
            have hol : (o ++ [y]).length = o.length + 1 := by simp
            rw [hol] at hown hlen hAl
            obtain ⟨g3, cap3, rfl, hg3, hg3l⟩ := hown.form (by omega)
            clear hlen
            obtain ⟨o0, o3, f3⟩ := own_atV hown o.length (by omega)
            rw [List.getElem_append_right (Nat.le_refl _)] at o0 o3
            simp only [Nat.sub_self, List.getElem_cons_zero] at o0 o3
            rw [pushV_snoc hbare] at hA2
            have hyt : y.x.text.size ≤ 1073741824 := by rw [txtV_append, txtV_one] at hAt; omega
            have hi1 : ((o.length : Int) + 1 - 1) = (o.length : Int) := by omega
            have hcp : (cap3 : Int) ≤ 9223372036854775807 ∧ (o.length : Int) < (cap3 : Int) := by
              rcases hown.2 with ⟨h', _⟩ | ⟨g', cap', cur, h', _, _, q1, q2, _⟩
              · cases h'
              · cases h'
                unfold maxLen at q2
                omega
            obtain ⟨hcp1, hcp2⟩ := hcp
            obtain ⟨⟨k2, n2, ats2, t2, ks2⟩, va2, vk2⟩ := y
            simp only [Nd.kind, Nd.text] at o0 o3 hyt
            cases hk2 : (k2 == 2)
            · have h3 : M3.isText (.mk k2 n2 ats2 t2 ks2) = false := hk2
              simp only [h3, Bool.and_false, Bool.false_eq_true, if_false] at hA2
              clear h3 hbare
              go_wp2_with (at_builtin; refine wpList_appK _ [.int .i64 2, .string n, .slice a1 ats.length e1, .string t, .slice a2 ks.length e2] 5 rfl _ _ 22 28 rfl w.heap.size Try.underlying22 infoN rfl (by omega) _ (o.length + 1) (cellsV (o ++ [(⟨.mk k2 n2 ats2 t2 ks2, va2, vk2⟩ : NV)])) rfl hown _ rfl rfl rfl (five_one _ _ _ _ _ _ _ _ _) (by omega) (by omega) (by omega) ?_; intro g cp w2 hown2 hgrow2 hat2)
              have hb2 := below_own hb hown hgrow2 hz (Nat.le_refl _)
              have hown3 : w2.ownsRow w.heap.size 28 5 (.slice (some ⟨g, 0, none⟩) (o.length + 1 + 1) cp) ((o ++ [(⟨.mk k2 n2 ats2 t2 ks2, va2, vk2⟩ : NV)]) ++ [(⟨.mk 2 n ats t ks, .slice a1 ats.length e1, .slice a2 ks.length e2⟩ : NV)]).length (cellsV ((o ++ [(⟨.mk k2 n2 ats2 t2 ks2, va2, vk2⟩ : NV)]) ++ [(⟨.mk 2 n ats t ks, .slice a1 ats.length e1, .slice a2 ks.length e2⟩ : NV)])) := by
                rw [cellsV_snoc, List.length_append, hol]; exact hown2
              clear hown2 hgrow2 hat2
              go_roundw
              case rel => exact ⟨i + 1, (o ++ [(⟨.mk k2 n2 ats2 t2 ks2, va2, vk2⟩ : NV)]) ++ [(⟨.mk 2 n ats t ks, .slice a1 ats.length e1, .slice a2 ks.length e2⟩ : NV)], by omega, by go_num, Lib.hid hA2.out.symm, hown3, hb2⟩
              case measure => exact meas_nat hlt
            · have h3 : M3.isText (.mk k2 n2 ats2 t2 ks2) = true := hk2
              have h4 : M3.isText (.mk 2 n ats t ks) = true := rfl
              simp only [h3, h4, Bool.and_self, if_true] at hA2
              clear h3 h4 hbare
              obtain rfl : k2 = 2 := by simpa using hk2
              go_wp2_with (fail)
              have hq1 : (o.length : Int) < (o.length : Int) + 1 := by omega
              have hq2 : (i : Int) < (L.length : Int) := by omega
              have hq3 : ¬ (9223372036854775807 < t2.size + t.size) := by omega
              go_still_tail 15, (by kernel_rfl)
              change wpList _ _ _ _ _ wr.drew
              go_wp2_with (fail)
              have hst := (hown.stored (o.length * 5 + 3) (.string (t2 ++ t))).1
              have hown3 := own_keep hst (w' := (wr.setCell ⟨g3, o.length * 5 + 3, none⟩ (.string (t2 ++ t))).drew) (fun _ _ => rfl)
              rw [setText_cells _ _ _ _ rfl, ← cat_eq] at hown3
              have hb3 : Below w.heap.size w (wr.setCell ⟨g3, o.length * 5 + 3, none⟩ (.string (t2 ++ t))).drew := (hb.setCell (p := ⟨g3, o.length * 5 + 3, none⟩) hg3 _).drew
              go_roundw
              case rel => exact ⟨i + 1, o ++ [NV.withText (⟨.mk 2 n2 ats2 t2 ks2, va2, vk2⟩ : NV) (M3.cat t2 t)], by omega, by go_num, Lib.hid hA2.out.symm, by rw [List.length_append]; exact hown3, hb3⟩
              case measure => exact meas_nat hlt
        · rw [hte] at hbare
          rw [pushV_bare hbare] at hA2
          go_wp2_with (fail)
          go_roundw
          case rel => exact ⟨i + 1, A, by omega, by go_num, Lib.hid hA2.out.symm, hown, hb⟩
          case measure => exact meas_nat hlt
    · obtain rfl : i = L.length := by omega
      rw [List.take_length] at hA
      go_wp2_with (fail)
      go_ret
      exact ⟨u3, rfl, by rw [← hA.out]; exact hown, hb⟩
end Go.Proofs.Ytjelmpajphajfaa
