/- Package dom: an attribute's value, attributes' names, an element's own error, a node's own error. -/
import Derived.Test.YtjelmpajphajfaaDom3
import Derived.Test.YtjelmpajphajfaaMath3c
import Derived.Test.YtjelmpajphajfaaMapKit
import Derived.Maps.OwnSet
namespace Go.Proofs.Ytjelmpajphajfaa
open Go.RowKit Go.Maps Go.WideShapes

theorem Row.below {S : Nat → Prop} {w w' : World} {B k n : Nat} {v : Value} {xs : List Value} (h : Row S w k v n xs) (hS : ∀ b, S b → b < B) (hb : Below B w w') : Row S w' k v n xs := h.keep fun b h => hb.block b (hS b h)
theorem RepN.below {S : Nat → Prop} {w w' : World} {B : Nat} {v : Value} {l : List Nd} (h : RepN S w v l) (hS : ∀ b, S b → b < B) (hb : Below B w w') : RepN S w' v l := h.keep fun b h => hb.block b (hS b h)
theorem RepV.below {S : Nat → Prop} {w w' : World} {B : Nat} {x : Nd} {va vk : Value} (h : RepV S w x va vk) (hS : ∀ b, S b → b < B) (hb : Below B w w') : RepV S w' x va vk := h.keep fun b h => hb.block b (hS b h)
theorem run_makeMap_hint {P : Program} (t k e : TypeId) (kd : IntKind) (n : Int) (ht : P.underlying t = some (.map k e)) (w : World) :
    (Instr.makeMap t (some (.int kd n))).run P w = .ok (.map (some w.heap.size)) (w.alloc (.map #[] 0)) := by
  simp [Instr.makeMap, run_underlying ht]; rfl

def valAns (o : Option ByteArray) : Value := .tuple #[.string (o.getD ⟨#[]⟩), .bool o.isSome]

theorem zeroU (w : World) : (zeroValue 94).run Try.prog w = .ok (.agg #[]) w := by kernel_rfl
theorem lawS : Keyed Try.prog 9 := string_keyed Try.underlying9
def keysD (l : List ByteArray) : DataW Unit := Maps.setOf (.agg []) (l.map fun s => Lit.string s.data.toList)
theorem keysD_has (l : List ByteArray) (s : ByteArray) : Maps.has (keysD l) (.string s.data.toList) = l.any (M3.eqB s) := by
  unfold keysD
  rw [Maps.has_setOf _ _ _ (by intro x hx; obtain ⟨y, _, rfl⟩ := List.mem_map.1 hx; trivial), List.any_map]
  congr 1
  funext y
  simp only [Function.comp]
  rw [Bool.eq_iff_iff, M3.eqB_iff]
  constructor
  · intro h
    have := WideAt.sameKey_eq h
    simp only [Lit.string.injEq] at this
    cases s; cases y
    congr 1
    exact (Array.ext' this).symm
  · rintro rfl; exact WideAt.sameKey_self (by trivial)
theorem keysD_snoc (l : List ByteArray) (s : ByteArray) : (keysD l).put (.string s.data.toList) (.agg []) = keysD (l ++ [s]) := by
  unfold keysD
  rw [List.map_append]
  exact (Maps.setOf_snoc _ _ _).symm
abbrev Seen (w : World) (b n : Nat) (l : List ByteArray) : Prop := w.ownsMap Try.prog 9 (unitElem (H := Unit)) b n (keysD l)

set_option maxHeartbeats 4000000 in
set_option maxRecDepth 100000 in
theorem domNames (S : Nat → Prop) (va : Value) (ats : List Att) (w : World) (hS : ∀ b, S b → b < w.heap.size) (hat : Row S w 2 va ats.length (cellsA ats)) (hsz : ∀ a ∈ ats, a.name.size ≤ 268435456) :
    Calls Try.prog 88 #[va] w fun e w' => e = .returned (.int .i64 (M3.namesE [] ats)) ∧ Below w.heap.size w w' := by
  obtain ⟨a, cap, rfl⟩ := hat.slice
  obtain ⟨_, hlc, hcm⟩ := hat.len
  have hmm := fun W => run_makeMap_hint (P := Try.prog) 93 9 94 .i64 (ats.length : Int) Try.underlying93 W
  have ho := World.ownsMap_made w Try.prog 9 (unitElem (H := Unit))
  go_enter Try.func88, Try.ntmps88
  go_wp2
  go_loopw [13] (fun u13 wr => ∃ i : Nat, i ≤ ats.length ∧ u13 = .int .i64 (i : Int) ∧ Below w.heap.size w wr ∧ Seen wr w.heap.size i ((ats.take i).map Att.name) ∧ Hid (M3.namesE [] ats = M3.namesE ((ats.take i).map Att.name) (ats.drop i))) (fun u13 _ => ats.length - (intOf u13).toNat)
  case atStart => exact ⟨0, by omega, rfl, (Below.refl _ _).alloc (Nat.le_refl _) _, ho, rfl⟩
  case round =>
    obtain ⟨i, hi, rfl, hb, hown, hv⟩ := hrel
    have hz := hb.size
    clear hmm ho
    by_cases hlt : i < ats.length
    · obtain ⟨b, off, rfl, hSb, c0, c1⟩ := (hat.below hS hb).atA i hlt
      have hbl := hS b hSb
      have hsn := hsz _ (List.getElem_mem hlt)
      have hdr : ats.drop i = ats[i] :: ats.drop (i + 1) := List.drop_eq_getElem_cons hlt
      have htk : (ats.take (i + 1)).map Att.name = (ats.take i).map Att.name ++ [ats[i].name] := by
        rw [List.take_succ_eq_append_getElem hlt, List.map_append]; rfl
      rw [hdr, M3.namesE, ← htk] at hv
      have hks := keysD_snoc ((ats.take i).map Att.name) ats[i].name
      rw [← htk] at hks
      have hkh := keysD_has ((ats.take i).map Att.name) ats[i].name
      generalize hs2 : (ats.take (i + 1)).map Att.name = seen2 at *
      replace hs2 := Lib.hid hs2
      generalize (ats.take i).map Att.name = seen at *
      generalize ats[i].value = vl at *
      generalize ats[i].name = nm at *
      clear hdr htk
      replace hks := Lib.hid hks
      have hA := Lib.hid (fun W => domAttributed nm W hsn)
      generalize M3.attributedB nm.data.toList = p at *
      generalize seen.any (M3.eqB nm) = q at *
      replace hkh := Lib.hid hkh
      have hsl : w.heap.size < wr.heap.size := by
        obtain ⟨es, clock, h1, _⟩ := hown
        exact (Array.getElem?_eq_some_iff.1 h1).1
      have hkey := WideMaps.keyOf_string_mk Try.underlying9 (s := nm) (by unfold maxLen; omega)
      replace hkey := Lib.hid hkey
      cases p
      · have hv2 : Hid (M3.namesE [] ats = 4) := hv
        clear hv
        go_wp2_with fail
        refine (hA.out _).mono ?_
        rintro e w2 ⟨rfl, hb2⟩
        go_wp2
        go_ret
        exact ⟨by rw [hv2.out]; rfl, (hb.alloc hz _).trans (hb2.mono (by simp; omega))⟩
      · go_wp2_with fail
        refine (hA.out _).mono ?_
        rintro e w2 ⟨rfl, hb2⟩
        have hown2 : Seen w2 w.heap.size i seen := ownsMap_below (hown.alloc _) hb2
        have hsl2 : w.heap.size < w2.heap.size := by have := hb2.size; simp at this; omega
        obtain ⟨v, ps, hrun, hv3⟩ := hown2.look_ok lawS Try.underlying93 (zeroU w2) unitElem_mk hkey.out
        obtain ⟨rfl, _⟩ := unitElem_inv hv3
        clear hv3
        rw [hkh.out] at hrun
        have hbox : Box w2 wr.heap.size 44 [.string nm, .string vl] := (Box.new wr _ _).below hb2 (by simp)
        have hc2 := hbox.cell (i := 0) rfl
        have hbw2 : Below w.heap.size w w2 := (hb.alloc hz _).trans (hb2.mono (by simp; omega))
        replace hbox := Lib.hid hbox
        have hz2 : wr.heap.size < w2.heap.size := by have := hb2.size; simp at this; omega
        cases q
        · obtain ⟨w4, hrun2, hown4, ht4⟩ := (hown2.alloc (.cells #[] 94)).store lawS Try.underlying93 (by unfold maxLen; omega) hkey.out (unitElem_mk (H := Unit))
          have hbw4 : Below w.heap.size w w4 := (hbw2.alloc hbw2.size (.cells #[] 94)).grown ht4.grown (by simp; omega) (fun k hk => by cases hk; exact Nat.le_refl _)
          have hown5 : Seen w4 w.heap.size (i + 1) seen2 := by show World.ownsMap _ _ _ _ _ _ (keysD seen2); rw [← hks.out]; exact hown4
          clear hown4 ht4
          go_wp2
          go_roundw
          case rel => exact ⟨i + 1, by omega, by go_num, hbw4, by rw [hs2.out]; exact hown5, by show _ = _; rw [hs2.out]; exact hv⟩
          case measure => simp [intOf]; omega
        · have hv2 : Hid (M3.namesE [] ats = 5) := hv
          clear hv
          go_wp2
          go_ret
          exact ⟨by rw [hv2.out]; rfl, hbw2.alloc hbw2.size _⟩
    · have hvd : Hid (M3.namesE [] ats = 0) := by show _ = _; rw [hv.out, List.drop_of_length_le (by omega)]; rfl
      go_wp2
      go_ret
      exact ⟨by rw [hvd.out]; rfl, hb⟩

/-! ### A node's own error -/
def Fit1 (x : Nd) : Prop := x.name.size ≤ 268435456 ∧ x.text.size ≤ 268435456 ∧ (∀ a ∈ x.attrs, a.name.size ≤ 268435456 ∧ a.value.size ≤ 268435456) ∧ 1 + x.attrs.length + M3.weight x.kids ≤ 1000000

set_option maxHeartbeats 2000000 in
set_option maxRecDepth 100000 in
theorem domKindly (S : Nat → Prop) (x : Nd) (va vk : Value) (w : World) (hx : RepV S w x va vk) :
    Calls Try.prog 70 #[x.val va vk] w fun e w' => e = .returned (.bool (M3.kindlyF x.kind x.name x.attrs x.text x.kids)) ∧ Below w.heap.size w w' := by
  obtain ⟨hat, hkd⟩ := hx
  obtain ⟨a, cap, rfl⟩ := hat.slice
  obtain ⟨a2, cap2, rfl⟩ := hkd.slice
  cases x with | mk k n ats t ks =>
  have hb0 : ∀ cs, Below w.heap.size w (w.alloc (.cells cs 28)) := fun cs => (Below.refl _ _).alloc (Nat.le_refl _) _
  simp only [Nd.val, Nd.kind, Nd.name, Nd.text, Nd.attrs, Nd.kids] at *
  unfold M3.kindlyF M3.plainF M3.nilB
  by_cases h1 : k = 1
  · subst h1
    rw [if_pos rfl]
    go_enter Try.func70, Try.ntmps70
    go_wp2
    go_ret
    exact ⟨by simp, hb0 _⟩
  have h1b : (k == 1) = false := by simpa using h1
  rw [if_neg h1]
  by_cases h2 : k = 2 ∨ k = 3
  · rw [if_pos h2]
    clear h1
    have hq1 : ((ats.length : Int) == 0) = ats.isEmpty := by cases ats <;> simp; omega
    have hq2 : ((ks.length : Int) == 0) = ks.isEmpty := by cases ks <;> simp; omega
    generalize ats.isEmpty = e1 at *
    generalize ks.isEmpty = e2 at *
    rcases h2 with rfl | rfl
    · go_enter Try.func70, Try.ntmps70
      go_wp2
      all_goals (go_ret; exact ⟨by simp_all, hb0 _⟩)
    · go_enter Try.func70, Try.ntmps70
      go_wp2
      all_goals (go_ret; exact ⟨by simp_all, hb0 _⟩)
  · rw [if_neg h2]
    have h2b : (k == 2) = false := by simp; omega
    have h3b : (k == 3) = false := by simp; omega
    clear h1 h2
    go_enter Try.func70, Try.ntmps70
    go_wp2
    go_ret
    exact ⟨rfl, hb0 _⟩
end Go.Proofs.Ytjelmpajphajfaa
