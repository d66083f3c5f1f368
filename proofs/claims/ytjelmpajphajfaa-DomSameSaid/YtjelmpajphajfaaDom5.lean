/- Package dom and the reference: an element's error, a node's error. -/
import Derived.Test.YtjelmpajphajfaaDom4
namespace Go.Proofs.Ytjelmpajphajfaa
open Go.RowKit Go.Maps Go.WideShapes

theorem Fit1.attr {x : Nd} (h : Fit1 x) : ∀ a ∈ x.attrs, a.name.size ≤ 268435456 := fun a ha => (h.2.2.1 a ha).1

set_option maxHeartbeats 4000000 in
set_option maxRecDepth 100000 in
theorem domElement (S : Nat → Prop) (x : Nd) (va vk : Value) (w : World) (hS : ∀ b, S b → b < w.heap.size) (hx : RepV S w x va vk) (hf : Fit1 x) :
    Calls Try.prog 71 #[x.val va vk] w fun e w' => e = .returned (.int .i64 (M3.elemF x.name x.attrs)) ∧ Below w.heap.size w w' := by
  obtain ⟨hat, hkd⟩ := hx
  have hN := fun w hS hat => domNames S va x.attrs w hS hat hf.attr
  obtain ⟨a, cap, rfl⟩ := hat.slice
  obtain ⟨_, hlc, hcm⟩ := hat.len
  obtain ⟨a2, cap2, rfl⟩ := hkd.slice
  cases x with | mk k n ats t ks =>
  obtain ⟨hf1, hf2, hf3, _⟩ := hf
  simp only [Nd.val, Nd.kind, Nd.name, Nd.text, Nd.attrs, Nd.kids] at *
  have hb0 := (Below.refl w.heap.size w).alloc (Nat.le_refl _) (.cells #[.int .i64 k, .string n, .slice a ats.length cap, .string t, .slice a2 ks.length cap2] 28)
  have hbx0 := Box.new w 28 [.int .i64 k, .string n, .slice a ats.length cap, .string t, .slice a2 ks.length cap2]
  have hNa := Lib.hid (fun W => domNamed n W (by omega))
  have hr : Hid (M3.elemF n ats = if M3.namedB n.data.toList then (if M3.namesE [] ats = 0 then M3.valuesE ats else M3.namesE [] ats) else 4) := rfl
  generalize M3.namedB n.data.toList = p at *
  cases p
  · replace hr : Hid (M3.elemF n ats = 4) := hr
    clear hN
    go_enter Try.func71, Try.ntmps71
    go_wp2_with fail
    refine (hNa.out _).mono ?_
    rintro e w1 ⟨rfl, hb1⟩
    go_wp2
    go_ret
    exact ⟨by rw [hr.out]; rfl, hb0.trans (hb1.mono (by simp))⟩
  replace hr : Hid (M3.elemF n ats = if M3.namesE [] ats = 0 then M3.valuesE ats else M3.namesE [] ats) := hr
  replace hN := Lib.hid hN
  generalize M3.namesE [] ats = z at *
  go_enter Try.func71, Try.ntmps71
  go_wp2_with fail
  refine (hNa.out _).mono ?_
  rintro e w1 ⟨rfl, hb1⟩
  have hbx1 := hbx0.below hb1 (by simp)
  have hc1 := hbx1.cell (i := 2) rfl
  have hbw1 : Below w.heap.size w w1 := hb0.trans (hb1.mono (by simp))
  have hz1 := hbx1.lt
  have hat1 := hat.below hS hbw1
  clear hbx0
  replace hbx1 := Lib.hid hbx1
  go_wp2_with fail
  refine (hN.out w1 (fun b h => by have := hS b h; omega) hat1).mono ?_
  rintro e w2 ⟨rfl, hb2⟩
  have hbx2 := hbx1.out.below hb2 hz1
  have hc2 := hbx2.cell (i := 2) rfl
  have hbw2 : Below w.heap.size w w2 := hbw1.trans (hb2.mono (by omega))
  have hz2 := hbx2.lt
  clear hc1
  by_cases hz : z = 0
  · rw [if_pos hz] at hr
    subst hz
    go_wp2
    go_loopw [19] (fun u19 wr => ∃ i : Nat, i ≤ ats.length ∧ u19 = .int .i64 (i : Int) ∧ Below w.heap.size w wr ∧ Hid (M3.valuesE ats = M3.valuesE (ats.drop i))) (fun u19 _ => ats.length - (intOf u19).toNat)
    case atStart => exact ⟨0, by omega, rfl, hbw2, rfl⟩
    case round =>
      obtain ⟨i, hi, rfl, hb, hv⟩ := hrel
      have hzz := hb.size
      by_cases hlt : i < ats.length
      · obtain ⟨b, off, rfl, hSb, c0, c1⟩ := (hat.below hS hb).atA i hlt
        have hbl := hS b hSb
        have hsn := (hf3 _ (List.getElem_mem hlt)).2
        have hdr : ats.drop i = ats[i] :: ats.drop (i + 1) := List.drop_eq_getElem_cons hlt
        rw [hdr, M3.valuesE] at hv
        generalize ats[i].value = vl at *
        generalize ats[i].name = nm at *
        clear hdr
        have hI := Lib.hid (fun W => utfIs vl W (by omega))
        generalize M1.isB vl.data.toList = q at *
        go_wp2_with fail
        refine (hI.out _).mono ?_
        rintro e w3 ⟨rfl, hb3⟩
        have hbw3 : Below w.heap.size w w3 := (hb.alloc hzz (.cells #[.string nm, .string vl] 44)).trans (hb3.mono (by simp; omega))
        clear hc2
        cases q
        · have hv2 : Hid (M3.valuesE ats = 2) := hv
          go_wp2
          go_ret
          exact ⟨by rw [hr.out, hv2.out]; rfl, hbw3⟩
        · have hv2 : Hid (M3.valuesE ats = M3.valuesE (ats.drop (i + 1))) := hv
          clear hv
          go_wp2
          go_roundw
          case rel => exact ⟨i + 1, by omega, by go_num, hbw3, hv2⟩
          case measure => simp [intOf]; omega
      · have hvd : Hid (M3.valuesE ats = 0) := by show _ = _; rw [hv.out, List.drop_of_length_le (by omega)]; rfl
        go_wp2
        go_ret
        exact ⟨by rw [hr.out, hvd.out]; rfl, hb⟩
  · rw [if_neg hz] at hr
    have hzb : (z == 0) = false := by simpa using hz
    go_wp2
    go_ret
    exact ⟨by rw [hr.out]; rfl, hbw2⟩

set_option maxHeartbeats 4000000 in
set_option maxRecDepth 100000 in
theorem domFault (S : Nat → Prop) (x : Nd) (va vk : Value) (ah : Int) (w : World) (hS : ∀ b, S b → b < w.heap.size) (hx : RepV S w x va vk) (hf : Fit1 x) :
    Calls Try.prog 44 #[x.val va vk, .int .i64 ah] w fun e w' => e = .returned (.int .i64 (M3.oneE x (ah == 2))) ∧ Below w.heap.size w w' := by
  have hK := Lib.hid (fun W (h : RepV S W x va vk) => domKindly S x va vk W h)
  have hE := Lib.hid (fun W h1 h2 => domElement S x va vk W h1 h2 hf)
  obtain ⟨hf1, hf2, hf3, _⟩ := hf
  have hI := Lib.hid (fun W => utfIs x.text W (by omega))
  have hr : Hid (M3.oneE x (ah == 2) = M3.oneF x.kind x.name x.attrs x.text x.kids (ah == 2)) := by
    cases x; exact M3.oneE_mk _ _ _ _ _ _
  unfold M3.oneF at hr
  have hbx0 := Box.new w 28 (x.cells va vk)
  have hb0 := (Below.refl w.heap.size w).alloc (Nat.le_refl _) (.cells (x.cells va vk).toArray 28)
  have hx0 := hx.below hS hb0
  have hkf : M3.kindlyF x.kind x.name x.attrs x.text x.kids = true → x.kind = 1 ∨ x.kind = 2 ∨ x.kind = 3 := by
    intro h
    unfold M3.kindlyF at h
    by_cases h1 : x.kind = 1
    · exact Or.inl h1
    · rw [if_neg h1] at h
      by_cases h2 : x.kind = 2 ∨ x.kind = 3
      · exact Or.inr h2
      · rw [if_neg h2] at h; cases h
  generalize M3.kindlyF x.kind x.name x.attrs x.text x.kids = p at *
  cases x with | mk k n ats t ks =>
  simp only [Nd.val, Nd.kind, Nd.name, Nd.text, Nd.attrs, Nd.cells] at *
  cases p
  · replace hr : Hid (M3.oneE (.mk k n ats t ks) (ah == 2) = 7) := hr
    clear hE hI hkf
    go_enter Try.func44, Try.ntmps44
    go_wp2_with fail
    refine (hK.out _ hx0).mono ?_
    rintro e w1 ⟨rfl, hb1⟩
    go_wp2
    go_ret
    exact ⟨by rw [hr.out]; rfl, hb0.trans (hb1.mono (by simp))⟩
  replace hkf := hkf rfl
  replace hr : Hid (M3.oneE (.mk k n ats t ks) (ah == 2) = if k = 1 then M3.elemF n ats else if (M1.isB t.data.toList && !(decide (k = 2) && (M3.nilB t || (ah == 2)))) = true then 0 else 2) := hr
  rcases Or.symm hkf with hkf | hkf
  · rw [if_neg (by omega)] at hr
    clear hE
    generalize hq : M1.isB t.data.toList = q at *
    clear hq
    rcases hkf with rfl | rfl
    · replace hr : Hid (M3.oneE (.mk 2 n ats t ks) (ah == 2) = if (q && !(t.toList.isEmpty || (ah == 2))) = true then 0 else 2) := hr
      cases heb : t.toList.isEmpty
      · rw [heb] at hr
        cases hah : (ah == 2)
        · rw [hah] at hr
          go_enter Try.func44, Try.ntmps44
          go_wp2_with fail
          refine (hK.out _ hx0).mono ?_
          rintro e w1 ⟨rfl, hb1⟩
          have hbx1 := hbx0.below hb1 (by simp)
          have c0 := hbx1.cell (i := 0) rfl
          have c3 := hbx1.cell (i := 3) rfl
          have hbw1 : Below w.heap.size w w1 := hb0.trans (hb1.mono (by simp))
          clear hbx0
          replace hbx1 := Lib.hid hbx1
          go_wp2_with fail
          refine (hI.out _).mono ?_
          rintro e w2 ⟨rfl, hb2⟩
          cases q
          · have hr2 : Hid (M3.oneE (.mk 2 n ats t ks) false = 2) := by show _ = _; rw [hr.out]; rfl
            go_wp2
            go_ret
            exact ⟨by rw [hr2.out]; rfl, hbw1.trans (hb2.mono hbw1.size)⟩
          · have hr2 : Hid (M3.oneE (.mk 2 n ats t ks) false = 0) := by show _ = _; rw [hr.out]; rfl
            go_wp2
            go_ret
            exact ⟨by rw [hr2.out]; rfl, hbw1.trans (hb2.mono hbw1.size)⟩
        · rw [hah] at hr
          have hr2 : Hid (M3.oneE (.mk 2 n ats t ks) true = 2) := by show _ = _; rw [hr.out]; cases q <;> rfl
          go_enter Try.func44, Try.ntmps44
          go_wp2_with fail
          refine (hK.out _ hx0).mono ?_
          rintro e w1 ⟨rfl, hb1⟩
          have hbx1 := hbx0.below hb1 (by simp)
          have c0 := hbx1.cell (i := 0) rfl
          have c3 := hbx1.cell (i := 3) rfl
          have hbw1 : Below w.heap.size w w1 := hb0.trans (hb1.mono (by simp))
          clear hbx0
          replace hbx1 := Lib.hid hbx1
          go_wp2
          go_ret
          exact ⟨by rw [hr2.out]; rfl, hbw1⟩
      · rw [heb] at hr
        have hr2 : Hid (M3.oneE (.mk 2 n ats t ks) (ah == 2) = 2) := by show _ = _; rw [hr.out]; cases q <;> rfl
        go_enter Try.func44, Try.ntmps44
        go_wp2_with fail
        refine (hK.out _ hx0).mono ?_
        rintro e w1 ⟨rfl, hb1⟩
        have hbx1 := hbx0.below hb1 (by simp)
        have c0 := hbx1.cell (i := 0) rfl
        have c3 := hbx1.cell (i := 3) rfl
        have hbw1 : Below w.heap.size w w1 := hb0.trans (hb1.mono (by simp))
        clear hbx0
        replace hbx1 := Lib.hid hbx1
        go_wp2
        go_ret
        exact ⟨by rw [hr2.out]; rfl, hbw1⟩
    · replace hr : Hid (M3.oneE (.mk 3 n ats t ks) (ah == 2) = if (q && true) = true then 0 else 2) := hr
      go_enter Try.func44, Try.ntmps44
      go_wp2_with fail
      refine (hK.out _ hx0).mono ?_
      rintro e w1 ⟨rfl, hb1⟩
      have hbx1 := hbx0.below hb1 (by simp)
      have c0 := hbx1.cell (i := 0) rfl
      have c3 := hbx1.cell (i := 3) rfl
      have hbw1 : Below w.heap.size w w1 := hb0.trans (hb1.mono (by simp))
      clear hbx0
      replace hbx1 := Lib.hid hbx1
      go_wp2_with fail
      refine (hI.out _).mono ?_
      rintro e w2 ⟨rfl, hb2⟩
      cases q
      · have hr2 : Hid (M3.oneE (.mk 3 n ats t ks) (ah == 2) = 2) := by show _ = _; rw [hr.out]; rfl
        go_wp2
        go_ret
        exact ⟨by rw [hr2.out]; rfl, hbw1.trans (hb2.mono hbw1.size)⟩
      · have hr2 : Hid (M3.oneE (.mk 3 n ats t ks) (ah == 2) = 0) := by show _ = _; rw [hr.out]; rfl
        go_wp2
        go_ret
        exact ⟨by rw [hr2.out]; rfl, hbw1.trans (hb2.mono hbw1.size)⟩
  · subst hkf
    rw [if_pos rfl] at hr
    clear hI
    go_enter Try.func44, Try.ntmps44
    go_wp2_with fail
    refine (hK.out _ hx0).mono ?_
    rintro e w1 ⟨rfl, hb1⟩
    have hbx1 := hbx0.below hb1 (by simp)
    have c0 := hbx1.cell (i := 0) rfl
    have c1 := hbx1.cell (i := 1) rfl
    have c2 := hbx1.cell (i := 2) rfl
    have c3 := hbx1.cell (i := 3) rfl
    have c4 := hbx1.cell (i := 4) rfl
    have hbw1 : Below w.heap.size w w1 := hb0.trans (hb1.mono (by simp))
    have hx1 := hx.below hS hbw1
    have hz1 := hbx1.lt
    clear hbx0
    replace hbx1 := Lib.hid hbx1
    go_wp2_with fail
    refine (hE.out w1 (fun b h => by have := hS b h; omega) hx1).mono ?_
    rintro e w2 ⟨rfl, hb2⟩
    go_wp2
    go_ret
    exact ⟨by rw [hr.out]; rfl, hbw1.trans (hb2.mono (by omega))⟩
end Go.Proofs.Ytjelmpajphajfaa
