/- Texts joined: Tok6, Tok7, Tok8, Tok9, Tok10, Tok11, Tok12, Tok13, Tok14. -/
import Derived.Maps.OwnSet
import Derived.Maps.AppendAt
import Derived.Deep.RegionHeld3
import Derived.Test.YteefodibpjgicaaGreatS1
import Derived.Test.YteefodibpjgicaaGreatS2
import Derived.Test.YteefodibpjgicaaGreatS3
import Derived.Test.YteefodibpjgicaaGreatS4
import Derived.Test.YteefodibpjgicaaGreatS5
import Derived.Test.YteefodibpjgicaaGreatS6
import Derived.Test.YteefodibpjgicaaGreatS7
import Derived.Test.YteefodibpjgicaaGreatS8
namespace Go.Proofs.YteefodibpjgicaaGreat
open Go.RowKit
def Glo (w : World) : Prop := ∃ m : Int, w.cell? ⟨0, 0, none⟩ = some (.int .i64 m)
theorem Glo.below {B : Nat} {w w' : World} (h : Glo w) (hb : Below B w w') (hB : w.heap.size ≤ B) : Glo w' := by
  obtain ⟨m, hm⟩ := h
  exact ⟨m, by rw [hb.cell (Nat.lt_of_lt_of_le (World.block_lt_of_cell? w _ hm) hB)]; exact hm⟩
theorem named2 (s : ByteArray) (hs : s.size ≤ 1073741824) : Gives2 170 #[.string s] (M5.bs (M1.fold (s.data.toList.takeWhile M5.nameB))) (M5.bs (s.data.toList.dropWhile M5.nameB)) := fun w => tokNamed s w hs
theorem clone1 (s : ByteArray) (hs : s.size ≤ 1073741824) : Gives1 169 #[.string s] s := fun w => sClone s w (by omega)
theorem cut_world {s sep : ByteArray} {w : World} (hg : Glo w) (hs : s.size ≤ 1073741824) (hsep : sep.data.toList ≠ []) :
    Calls Tryz.prog 175 #[.string s, .string sep] w fun e w' => ∃ b, e = .returned (.tuple #[.string (M5.bs (M5.uptoR sep.data.toList s.data.toList).1), .string (M5.bs (M5.uptoR sep.data.toList s.data.toList).2), .bool b]) ∧ Below w.heap.size w w' := by
  obtain ⟨m, hm⟩ := hg
  refine (Tryz.strings_Cut s sep m w (by omega) hm).mono ?_
  rintro e w' ⟨rfl, n, rfl⟩
  obtain ⟨e1, e2⟩ := M5.cut_upto sep.data.toList s.data.toList hsep
  exact ⟨_, by rw [e1, e2]; rfl, below_drewN (Below.refl _ _) n⟩
theorem dropk_bs (s : ByteArray) (k : Nat) : s.extract k s.size = M5.bs (s.data.toList.drop k) := by
  rw [bs_cut, List.take_of_length_le (by rw [List.length_drop]; exact Nat.le_refl _)]
theorem isEmpty_yes (s : ByteArray) (h : s.size = 0) : s.toList.isEmpty = true := by
  rw [Lib.toList_data, List.isEmpty_iff]
  exact List.eq_nil_of_length_eq_zero h
theorem isEmpty_no (s : ByteArray) (h : 0 < s.size) : s.toList.isEmpty = false := by
  rw [Lib.toList_data, List.isEmpty_eq_false_iff]
  intro e
  have : s.data.toList.length = s.size := rfl
  rw [e] at this
  simp at this
  omega
theorem tokPost_nil {k : Int} {nm tx : ByteArray} {n : Nat} {z : Int} {w w' : World} (hz : z = (n : Int)) (hb : Below w.heap.size w w') :
    TokPost ⟨k, nm, [], tx⟩ n w (.returned (.tuple #[.agg #[.int .i64 k, .string nm, .slice none 0 0, .string tx], .int .i64 z])) w' := by
  subst hz
  exact ⟨.slice none 0 0, rfl, World.ownsRow_nil _ w.heap.size _ _, hb⟩
set_option maxHeartbeats 4000000 in
set_option maxRecDepth 100000 in
theorem tokRemark (s first last : ByteArray) (w : World) (hg : Glo w) (hs : s.size ≤ 1073741824) (hf : first.size ≤ s.size) (hl : last.data.toList ≠ []) :
    Calls Tryz.prog 165 #[.string s, .string first, .string last] w (TokPost (M5.remarkR last.data.toList (s.data.toList.drop first.size)).1 (s.size - (M5.remarkR last.data.toList (s.data.toList.drop first.size)).2.length) w) := by
  have hx : (s.extract first.size s.size).data.toList = s.data.toList.drop first.size := by rw [dropk_bs, M5.bs_data]
  have hxs : (s.extract first.size s.size).size ≤ 1073741824 := by rw [ByteArray.size_extract]; omega
  have hC := fun (w1 : World) (h : Glo w1) => cut_world (sep := last) h hxs hl
  rw [hx] at hC
  have hsuf := M5.upto_suf last.data.toList (s.data.toList.drop first.size)
  have hle := hsuf.le
  rw [List.length_drop, show s.data.toList.length = s.size from rfl] at hle
  have hsuf2 := (hsuf.trans (M5.Suf.drop _ _)).at_
  unfold M5.remarkR
  obtain ⟨tx, htx⟩ : ∃ x, Hid (x = M5.bs (M5.uptoR last.data.toList (s.data.toList.drop first.size)).1) := ⟨_, rfl⟩
  obtain ⟨rs, hrs⟩ : ∃ x, Hid (x = M5.bs (M5.uptoR last.data.toList (s.data.toList.drop first.size)).2) := ⟨_, rfl⟩
  have htxs : tx.size ≤ 1073741824 := by
    rw [htx.out, bs_size]
    have : (M5.uptoR last.data.toList (s.data.toList.drop first.size)).1.length ≤ (s.data.toList.drop first.size).length := by
      unfold M5.uptoR
      split
      · exact List.length_take_le' _ _
      · exact Nat.le_refl _
    rw [List.length_drop, show s.data.toList.length = s.size from rfl] at this
    omega
  have hrss : rs.size = (M5.uptoR last.data.toList (s.data.toList.drop first.size)).2.length := by rw [hrs.out, bs_size]
  rw [← htx.out, ← hrs.out] at hC
  rw [← htx.out]
  have hD := clone1 tx htxs
  generalize (M5.uptoR last.data.toList (s.data.toList.drop first.size)).2 = R at *
  replace hC := Lib.hid hC
  replace hD := Lib.hid hD
  replace hsuf2 := Lib.hid hsuf2
  replace hx := Lib.hid hx
  obtain ⟨wo, rfl⟩ : ∃ wo : World, wo = w := ⟨_, rfl⟩
  have bx0 := Box.new wo 87 [.int .i64 0, .string ⟨#[]⟩, .slice none 0 0, .string ⟨#[]⟩]
  have hb0 := (Below.refl _ wo).alloc (Nat.le_refl _) (.cells #[.int .i64 0, .string ⟨#[]⟩, .slice none 0 0, .string ⟨#[]⟩] 87)
  have hg0 := Lib.hid (hg.below hb0 (Nat.le_refl _))
  replace hb0 := Lib.hid hb0
  go_enter Tryz.func165, Tryz.ntmps165
  go_wp2_with fail
  refine (hC.out _ hg0.out).mono ?_
  rintro e1 w1 ⟨b, rfl, hb1⟩
  have bx1 := bx0.below hb1 bx0.lt
  have hbW1 := Lib.hid (bt hb0.out hb1)
  go_wp2_with fail
  refine (hD.out _).mono ?_
  rintro e1 w2 ⟨rfl, hb2⟩
  have bx2 := bx1.below hb2 bx1.lt
  have hbW2 := Lib.hid (bt hbW1.out hb2)
  have f0 := bx2.free
  have z0 := bx2.cell (i := 0) rfl
  have z1 := bx2.cell (i := 1) rfl
  have z2 := bx2.cell (i := 2) rfl
  have z3 := bx2.cell (i := 3) rfl
  have hsub : ¬ ((s.size : Int) - (R.length : Int) < 0) := by omega
  go_wp2_with fail
  have bf := bx2.four (.int .i64 4) (.string ⟨#[]⟩) (.slice none 0 0) (.string tx)
  have q0 := bf.cell (i := 0) rfl
  have q1 := bf.cell (i := 1) rfl
  have q2 := bf.cell (i := 2) rfl
  have q3 := bf.cell (i := 3) rfl
  exact bodyPost_ret (v := .tuple #[.agg #[.int .i64 4, .string ⟨#[]⟩, .slice none 0 0, .string tx], .int .i64 ((s.size : Int) - (R.length : Int))]) (by simp [results, Tryz.results165, go_sem, q0, q1, q2, q3]) rfl (tokPost_nil (by omega) (four_below hbW2.out _ _ _ _ (Nat.le_refl _)))
set_option maxHeartbeats 4000000 in
set_option maxRecDepth 100000 in
theorem tokEnd (s : ByteArray) (w : World) (hs : s.size ≤ 1073741824) (h2 : 2 ≤ s.size) :
    Calls Tryz.prog 164 #[.string s] w (TokPost (M5.endR (s.data.toList.drop 2)).1 (s.size - (M5.endR (s.data.toList.drop 2)).2.length) w) := by
  have hx : (s.extract 2 s.size).data.toList = s.data.toList.drop 2 := by rw [dropk_bs, M5.bs_data]
  have hxs : (s.extract 2 s.size).size ≤ 1073741824 := by rw [ByteArray.size_extract]; omega
  have hN := named2 (s.extract 2 s.size) hxs
  have hdl : (s.data.toList.drop 2).length = s.size - 2 := by rw [List.length_drop]; rfl
  rw [hx] at hN
  obtain ⟨nm, hnm⟩ : ∃ x, Hid (x = M5.bs (M1.fold ((s.data.toList.drop 2).takeWhile M5.nameB))) := ⟨_, rfl⟩
  obtain ⟨s1, hs1⟩ : ∃ x, Hid (x = M5.bs ((s.data.toList.drop 2).dropWhile M5.nameB)) := ⟨_, rfl⟩
  rw [← hnm.out, ← hs1.out] at hN
  have hs1l : s1.size ≤ s.size - 2 := by rw [hs1.out, bs_size, ← hdl]; exact (List.dropWhile_suffix _).length_le
  have hT := take2 asksEnd s1 (by omega)
  obtain ⟨x2, hx2⟩ : ∃ x, Hid (x = M5.bs (s1.data.toList.takeWhile (· != 62))) := ⟨_, rfl⟩
  obtain ⟨s2, hs2⟩ : ∃ x, Hid (x = M5.bs (s1.data.toList.dropWhile (· != 62))) := ⟨_, rfl⟩
  rw [← hx2.out, ← hs2.out] at hT
  have hs2e : s2 = M5.bs ((s.data.toList.drop 2).drop (M5.findL [62] (s.data.toList.drop 2))) := by rw [hs2.out, hs1.out, M5.bs_data, M5.drop_name]
  have hs2z : s2.size = s.size - 2 - M5.findL [62] (s.data.toList.drop 2) := by rw [hs2e, bs_size, List.length_drop, hdl]
  have hE : Hid (M5.endR (s.data.toList.drop 2) = if M5.findL [62] (s.data.toList.drop 2) < s.size - 2 then (⟨2, nm, [], ⟨#[]⟩⟩, s.data.toList.drop (2 + (M5.findL [62] (s.data.toList.drop 2) + 1))) else (M5.zero, [])) := by
    show _ = _
    rw [M5.endR, hdl, hnm.out, List.drop_drop]
  rw [hE.out]
  have hfl := M5.findL_le [62] (s.data.toList.drop 2)
  rw [hdl] at hfl
  generalize M5.findL [62] (s.data.toList.drop 2) = F at *
  replace hN := Lib.hid hN
  replace hT := Lib.hid hT
  replace hs2e := Lib.hid hs2e
  replace hx := Lib.hid hx
  replace hdl := Lib.hid hdl
  obtain ⟨wo, rfl⟩ : ∃ wo : World, wo = w := ⟨_, rfl⟩
  have bx0 := Box.new wo 87 [.int .i64 0, .string ⟨#[]⟩, .slice none 0 0, .string ⟨#[]⟩]
  have hb0 := Lib.hid ((Below.refl _ wo).alloc (Nat.le_refl _) (.cells #[.int .i64 0, .string ⟨#[]⟩, .slice none 0 0, .string ⟨#[]⟩] 87))
  by_cases hF : F < s.size - 2
  · rw [if_pos hF]
    have hne : s2.toList.isEmpty = false := isEmpty_no s2 (by omega)
    have hlen : (s.data.toList.drop (2 + (F + 1))).length = s.size - (2 + (F + 1)) := by rw [List.length_drop]; rfl
    replace hlen := Lib.hid hlen
    go_enter Tryz.func164, Tryz.ntmps164
    go_wp2_with fail
    refine (hN.out _).mono ?_
    rintro e1 w1 ⟨rfl, hb1⟩
    have bx1 := bx0.below hb1 bx0.lt
    have hbW1 := Lib.hid (bt hb0.out hb1)
    go_wp2_with fail
    refine (hT.out _).mono ?_
    rintro e1 w2 ⟨rfl, hb2⟩
    have bx2 := bx1.below hb2 bx1.lt
    have hbW2 := Lib.hid (bt hbW1.out hb2)
    have f0 := bx2.free
    have z0 := bx2.cell (i := 0) rfl
    have z1 := bx2.cell (i := 1) rfl
    have z2 := bx2.cell (i := 2) rfl
    have z3 := bx2.cell (i := 3) rfl
    have bf := Lib.hid (bx2.four (.int .i64 2) (.string nm) (.slice none 0 0) (.string ⟨#[]⟩))
    clear hb1 hb2
    go_wp2_with fail
    have q0 := bf.out.cell (i := 0) rfl
    have q1 := bf.out.cell (i := 1) rfl
    have q2 := bf.out.cell (i := 2) rfl
    have q3 := bf.out.cell (i := 3) rfl
    exact bodyPost_ret (v := .tuple #[.agg #[.int .i64 2, .string nm, .slice none 0 0, .string ⟨#[]⟩], .int .i64 ((s.size : Int) - ((s.size - 2 - F : Nat) : Int) + 1)]) (by simp [results, Tryz.results164, go_sem, q0, q1, q2, q3]) rfl (tokPost_nil (by have := hlen.out; omega) (four_below hbW2.out _ _ _ _ (Nat.le_refl _)))
  · rw [if_neg hF]
    have hze : s2.size = 0 := by omega
    have hne : s2.toList.isEmpty = true := isEmpty_yes s2 hze
    replace hze := Lib.hid hze
    go_enter Tryz.func164, Tryz.ntmps164
    go_wp2_with fail
    refine (hN.out _).mono ?_
    rintro e1 w1 ⟨rfl, hb1⟩
    have bx1 := bx0.below hb1 bx0.lt
    have hbW1 := Lib.hid (bt hb0.out hb1)
    go_wp2_with fail
    refine (hT.out _).mono ?_
    rintro e1 w2 ⟨rfl, hb2⟩
    have bx2 := bx1.below hb2 bx1.lt
    have hbW2 := Lib.hid (bt hbW1.out hb2)
    have f0 := bx2.free
    have z0 := bx2.cell (i := 0) rfl
    have z1 := bx2.cell (i := 1) rfl
    have z2 := bx2.cell (i := 2) rfl
    have z3 := bx2.cell (i := 3) rfl
    have bf := Lib.hid (bx2.four (.int .i64 0) (.string ⟨#[]⟩) (.slice none 0 0) (.string ⟨#[]⟩))
    clear hb1 hb2
    go_wp2_with fail
    have q0 := bf.out.cell (i := 0) rfl
    have q1 := bf.out.cell (i := 1) rfl
    have q2 := bf.out.cell (i := 2) rfl
    have q3 := bf.out.cell (i := 3) rfl
    exact bodyPost_ret (v := .tuple #[.agg #[.int .i64 0, .string ⟨#[]⟩, .slice none 0 0, .string ⟨#[]⟩], .int .i64 (s.size : Int)]) (by simp [results, Tryz.results164, go_sem, q0, q1, q2, q3]) rfl (tokPost_nil (by show _ = ((s.size - 0 : Nat) : Int); omega) (four_below hbW2.out _ _ _ _ (Nat.le_refl _)))
end Go.Proofs.YteefodibpjgicaaGreat

namespace Go.Proofs.YteefodibpjgicaaGreat
open Go.RowKit Go.Maps
theorem zeroUnit (w : World) : (zeroValue 116).run Tryz.prog w = .ok (.agg #[]) w := by kernel_rfl
theorem keyS : Keyed Tryz.prog 9 := string_keyed Tryz.underlying9
def keyL (a : Att) : Lit := .string a.name.data.toList
def stoodD (acc : List Att) : DataW Unit := setOf (H := Unit) (.agg []) (acc.map keyL)
theorem keyL_isKey (acc : List Att) : ∀ x ∈ acc.map keyL, WideAt.IsKeyLit x := by
  intro x hx
  obtain ⟨a, _, rfl⟩ := List.mem_map.1 hx
  exact trivial
theorem has_stood (acc : List Att) (nm : ByteArray) : Maps.has (stoodD acc) (.string nm.data.toList) = acc.any fun b => M3.eqB b.name nm := by
  unfold stoodD
  rw [has_setOf _ _ _ (keyL_isKey acc), List.any_map]
  congr 1
  funext b
  show (Lit.string b.name.data.toList).sameKey (.string nm.data.toList) = M3.eqB b.name nm
  unfold M3.eqB
  rw [Lib.toList_data, Lib.toList_data]
  rfl
theorem stood_snoc (acc : List Att) (a : Att) : stoodD (acc ++ [a]) = (stoodD acc).put (.string a.name.data.toList) (.agg []) := by
  unfold stoodD
  rw [List.map_append, List.map_cons, List.map_nil, setOf_snoc]
  rfl
theorem stood_nil : stoodD [] = .map [] := rfl
theorem betw_over : betwB = M5.overB := rfl
theorem own_off {W : World} {B g j : Nat} {e : TypeId} {k n : Nat} {v : Value} {xs : List Value} (h : W.ownsRow B e k v n xs) (hg : ∀ b, v.ownBlock = some b → b ≠ g) (c : Value) : (W.setCell ⟨g, j, none⟩ c).ownsRow B e k v n xs :=
  own_keep5 h fun b hb => Below.heap_setCell W ⟨g, j, none⟩ c b (hg b hb)
def strLen : Value → Nat
  | .string s => s.size
  | _ => 0
theorem attr2 (s : ByteArray) (hs : s.size ≤ 1073741824) : ∀ w, Calls Tryz.prog 173 #[.string s] w (fun e w' => e = .returned (.tuple #[.agg #[.string (M5.attC s.data.toList).1.name, .string (M5.attC s.data.toList).1.value], .string (M5.bs (M5.attC s.data.toList).2)]) ∧ Below w.heap.size w w') := fun w => tokAttribute s w hs
theorem tokPost_own {t : Tok} {n : Nat} {z : Int} {va : Value} {B : Nat} {w w' : World} (hz : z = (n : Int)) (ho : w'.ownsRow B 43 2 va t.attrs.length (cellsA t.attrs)) (hB : w.heap.size ≤ B) (hb : Below w.heap.size w w') :
    TokPost t n w (.returned (.tuple #[.agg #[.int .i64 t.kind, .string t.name, va, .string t.text], .int .i64 z])) w' := by
  subst hz
  exact ⟨va, rfl, own_le ho hB, hb⟩
set_option maxHeartbeats 8000000 in
set_option maxRecDepth 100000 in
theorem tokBegin (s : ByteArray) (w : World) (hs : s.size ≤ 1073741824) (h1 : 1 ≤ s.size) :
    Calls Tryz.prog 163 #[.string s] w (TokPost (M5.beginR s.data.toList).1 (s.size - (M5.beginR s.data.toList).2.length) w) := by
  have hx : (s.extract 1 s.size).data.toList = s.data.toList.drop 1 := by rw [dropk_bs, M5.bs_data]
  have hxs : (s.extract 1 s.size).size ≤ 1073741824 := by rw [ByteArray.size_extract]; omega
  have hN := named2 (s.extract 1 s.size) hxs
  rw [hx] at hN
  obtain ⟨nm, hnm⟩ : ∃ x, Hid (x = M5.bs (M1.fold ((s.data.toList.drop 1).takeWhile M5.nameB))) := ⟨_, rfl⟩
  obtain ⟨R0, hR0⟩ : ∃ x, Hid (x = (s.data.toList.drop 1).dropWhile M5.nameB) := ⟨_, rfl⟩
  rw [← hnm.out, ← hR0.out] at hN
  have hR0l : R0.length ≤ s.size := by
    have h2 := ((M5.Suf.dropWhile M5.nameB (s.data.toList.drop 1)).trans (M5.Suf.drop _ _)).le
    rw [← hR0.out] at h2
    exact h2
  have hbe : Hid (M5.beginR s.data.toList = match M5.attsR R0 [] with
      | some (as_, r) => (⟨1, nm, as_, ⟨#[]⟩⟩, r)
      | none => (M5.zero, [])) := by
    show _ = _
    rw [M5.begin_eq, hnm.out, hR0.out]
    try (cases M5.attsR ((s.data.toList.drop 1).dropWhile M5.nameB) [] <;> rfl)
  generalize hP : M5.beginR s.data.toList = P at *
  replace hP := Lib.hid hP
  replace hN := Lib.hid hN
  replace hx := Lib.hid hx
  have hmm := @run_makeMap Tryz.prog
  obtain ⟨wo, rfl⟩ : ∃ wo : World, wo = w := ⟨_, rfl⟩
  go_enter Tryz.func163, Tryz.ntmps163
  go_wp2_with fail
  refine (hN.out _).mono ?_
  rintro e1 w1 ⟨rfl, hb1⟩
  have bz1 := (Box.new wo 87 [.int .i64 0, .string ⟨#[]⟩, .slice none 0 0, .string ⟨#[]⟩]).below hb1 (by simp)
  have b1 : Below wo.heap.size wo w1 := bt ((Below.refl _ wo).alloc (Nat.le_refl _) _) hb1
  have hs1 : wo.heap.size < w1.heap.size := bz1.lt
  go_wp2_with fail
  go_loopw [5] (fun u5 wr => ∃ (R : List UInt8) (acc : List Att) (va : Value) (n : Nat), acc.length + R.length ≤ s.size ∧ u5 = .string (M5.bs R) ∧ n ≤ acc.length ∧ Box wr wo.heap.size 87 [.int .i64 0, .string ⟨#[]⟩, .slice none 0 0, .string ⟨#[]⟩] ∧ Box wr w1.heap.size 87 [.int .i64 1, .string nm, va, .string ⟨#[]⟩] ∧ wr.ownsMap Tryz.prog 9 (unitElem (H := Unit)) (w1.heap.size + 1) n (stoodD acc) ∧ wr.ownsRow (w1.heap.size + 2) 43 2 va acc.length (cellsA acc) ∧ Below wo.heap.size wo wr ∧ w1.heap.size + 2 ≤ wr.heap.size ∧ Hid (M5.attsR R0 [] = M5.attsR R acc)) (fun u5 _ => strLen u5)
  case atStart =>
    refine ⟨R0, [], .slice none 0 0, 0, by simpa using hR0l, rfl, Nat.le_refl _, (bz1.alloc _).alloc _, (Box.new w1 87 [.int .i64 1, .string nm, .slice none 0 0, .string ⟨#[]⟩]).alloc _, ?_, World.ownsRow_nil _ _ _ _, (b1.alloc (by omega) _).alloc (by simp; omega) _, by simp, Lib.hid rfl⟩
    have := World.ownsMap_made (H := Unit) (w1.alloc (.cells #[.int .i64 1, .string nm, .slice none 0 0, .string ⟨#[]⟩] 87)) Tryz.prog 9 unitElem
    simpa [stood_nil] using this
  case round =>
    obtain ⟨R, acc, va, n, hal, rfl, hn, bz, bx, hmap, hown, hb, hws, hv⟩ := hrel
    have hRs : (M5.bs R).size ≤ 1073741824 := by rw [bs_size]; omega
    have hT := take2 asksBetween (M5.bs R) hRs
    rw [M5.bs_data] at hT
    obtain ⟨R1, hR1⟩ : ∃ x, Hid (x = R.dropWhile betwB) := ⟨_, rfl⟩
    obtain ⟨x1, hx1⟩ : ∃ x, Hid (x = M5.bs (R.takeWhile betwB)) := ⟨_, rfl⟩
    rw [← hR1.out, ← hx1.out] at hT
    have hR1l : R1.length ≤ R.length := by rw [hR1.out]; exact (List.dropWhile_suffix _).length_le
    have hv1 : Hid (M5.attsR R0 [] = M5.attsR R1 acc) := by show _ = _; rw [hv.out, M5.atts_over, hR1.out]; rfl
    have hhead := M5.over_head R
    rw [← betw_over, ← hR1.out, betw_over] at hhead
    replace hT := Lib.hid hT
    clear hv hx1
    have hRz : (M5.bs R).size = R.length := bs_size R
    obtain ⟨rt, hrt⟩ : ∃ x, Hid (x = M5.bs R) := ⟨_, rfl⟩
    obtain ⟨rt1, hrt1⟩ : ∃ x, Hid (x = M5.bs R1) := ⟨_, rfl⟩
    have hrt1z : rt1.size = R1.length := by rw [hrt1.out, bs_size]
    have hrt1d : Hid (rt1.data.toList = R1) := by show _ = _; rw [hrt1.out, M5.bs_data]
    rw [← hrt.out, ← hrt1.out] at hT
    rw [← hrt.out]
    go_wp2_with fail
    refine (hT.out _).mono ?_
    rintro e1 w2 ⟨rfl, hb2⟩
    have bz2 := bz.below hb2 bz.lt
    have bx2 := bx.below hb2 bx.lt
    have hmap2 := ownsMap_below hmap hb2
    have hown2 := own_below hown hb2
    have hbW2 := Lib.hid (bt hb hb2)
    have hws2 : w1.heap.size + 2 ≤ w2.heap.size := Nat.le_trans hws hb2.size
    have z0 := bz2.cell (i := 0) rfl
    have z1 := bz2.cell (i := 1) rfl
    have z2 := bz2.cell (i := 2) rfl
    have z3 := bz2.cell (i := 3) rfl
    have fz := bz2.free
    clear bz bx hmap hown hb hb2 hws
    cases hc : R1 with
    | nil =>
      have hin : Hid (P = (M5.zero, [])) := by show _ = _; rw [hbe.out, hv1.out, hc, M5.attsR_nil]
      have hem : rt1.toList.isEmpty = true := isEmpty_yes rt1 (by rw [hrt1z, hc]; rfl)
      replace hc := Lib.hid hc
      go_wp2_with fail
      have bf := bz2.four (.int .i64 0) (.string ⟨#[]⟩) (.slice none 0 0) (.string ⟨#[]⟩)
      have q0 := bf.cell (i := 0) rfl
      have q1 := bf.cell (i := 1) rfl
      have q2 := bf.cell (i := 2) rfl
      have q3 := bf.cell (i := 3) rfl
      exact bodyPost_ret (v := .tuple #[.agg #[.int .i64 0, .string ⟨#[]⟩, .slice none 0 0, .string ⟨#[]⟩], .int .i64 (s.size : Int)]) (by simp [results, Tryz.results163, go_sem, q0, q1, q2, q3]) rfl (by rw [hin.out]; exact tokPost_nil (by show _ = ((s.size - 0 : Nat) : Int); omega) (four_below hbW2.out _ _ _ _ (Nat.le_refl _)))
    | cons c r =>
      have hno : M5.overB c = false := hhead c r hc
      have h1p : 0 < rt1.size := by rw [hrt1z, hc]; simp
      have hem : rt1.toList.isEmpty = false := isEmpty_no rt1 h1p
      have hc0 : rt1[0] = c := by
        have := drop_cons rt1 0 h1p
        rw [List.drop_zero, hrt1d.out, hc] at this
        exact (List.cons.inj this).1.symm
      have hrl : R1.length = r.length + 1 := by rw [hc]; rfl
      by_cases h62 : c = 62
      · have e62 : ((c.toNat : Int) == 62) = true := by rw [h62]; rfl
        have hin : Hid (P = (⟨1, nm, acc, ⟨#[]⟩⟩, r)) := by
          show _ = _
          rw [hbe.out, hv1.out, hc, M5.attsR_cons, if_pos h62]
        obtain ⟨a, cap, rfl⟩ := own_slice5 hown2
        have t0 := bx2.cell (i := 0) rfl
        have t1 := bx2.cell (i := 1) rfl
        have t2 := bx2.cell (i := 2) rfl
        have t3 := bx2.cell (i := 3) rfl
        replace hc := Lib.hid hc
        go_wp2_with fail
        have bf := bz2.four (.int .i64 1) (.string nm) (.slice a acc.length cap) (.string ⟨#[]⟩)
        have q0 := bf.cell (i := 0) rfl
        have q1 := bf.cell (i := 1) rfl
        have q2 := bf.cell (i := 2) rfl
        have q3 := bf.cell (i := 3) rfl
        have ho4 := own_four (g := wo.heap.size) hown2 (by omega) (.int .i64 1) (.string nm) (.slice a acc.length cap) (.string ⟨#[]⟩)
        exact bodyPost_ret (v := .tuple #[.agg #[.int .i64 1, .string nm, .slice a acc.length cap, .string ⟨#[]⟩], .int .i64 ((s.size : Int) - ((r.length : Int) + 1) + 1)]) (by simp [results, Tryz.results163, go_sem, q0, q1, q2, q3]) rfl (by rw [hin.out]; exact tokPost_own (t := ⟨1, nm, acc, ⟨#[]⟩⟩) (by show _ = ((s.size - r.length : Nat) : Int); omega) ho4 (by omega) (four_below hbW2.out _ _ _ _ (Nat.le_refl _)))
      · have e62 : ((c.toNat : Int) == 62) = false := by rw [show ((c.toNat : Int) == 62) = (c == 62) from (eqI _ 62).symm]; exact beq_eq_false_iff_ne.2 h62
        obtain ⟨at0, R2, hp⟩ : ∃ a r, Hid (M5.attC R1 = (a, r)) := ⟨(M5.attC R1).1, (M5.attC R1).2, rfl⟩
        have hR2 : R2.length < R1.length := by
          have := M5.attC_lt c r hno h62
          rw [← hc, hp.out] at this
          exact this
        have hv2 : Hid (M5.attsR R0 [] = M5.attsR R2 (M5.addT acc at0)) := by
          show _ = _
          rw [hv1.out, hc, M5.atts_one c r acc hno h62, ← hc, hp.out]
        have hA := attr2 rt1 (by omega)
        rw [hrt1d.out, hp.out] at hA
        have hnl : at0.name.size ≤ 1073741824 := by
          have h := M5.attC_name_le R1
          rw [hp.out] at h
          have h : at0.name.size ≤ R1.length := h
          omega
        replace hA := Lib.hid hA
        replace hc := Lib.hid hc
        replace hp := Lib.hid hp
        clear hhead z0 z1 z2 z3 fz
        have bz2' := bz2.alloc (.cells #[.string ⟨#[]⟩, .string ⟨#[]⟩] 43)
        have bx2' := bx2.alloc (.cells #[.string ⟨#[]⟩, .string ⟨#[]⟩] 43)
        have ba2' := Box.new w2 43 [.string ⟨#[]⟩, .string ⟨#[]⟩]
        have hmap2' := hmap2.alloc (.cells #[.string ⟨#[]⟩, .string ⟨#[]⟩] 43)
        have hown2' := hown2.alloc (.cells #[.string ⟨#[]⟩, .string ⟨#[]⟩] 43)
        have hbW2' := hbW2.out.alloc hbW2.out.size (.cells #[.string ⟨#[]⟩, .string ⟨#[]⟩] 43)
        replace hbW2' := Lib.hid hbW2'
        go_wp2_with fail
        refine (hA.out _).mono ?_
        rintro e1 w3 ⟨rfl, hb3⟩
        have bz3 := bz2'.below hb3 bz2'.lt
        have bx3 := bx2'.below hb3 bx2'.lt
        have ba3 := ba2'.below hb3 ba2'.lt
        have hmap3 := ownsMap_below hmap2' hb3
        have hown3 := own_below hown2' hb3
        have hbW3 := Lib.hid (bt hbW2'.out hb3)
        have hz2 := bz2.lt
        have hx2 := bx2.lt
        have hs3 : w2.heap.size + 1 ≤ w3.heap.size := by have := hb3.size; simpa using this
        have y0 := ba3.cell (i := 0) rfl
        have y1 := ba3.cell (i := 1) rfl
        have fy := ba3.free
        have ba4 := Lib.hid (ba3.two (.string at0.name) (.string at0.value))
        have bz4 := Lib.hid ((bz3.far (p := ⟨w2.heap.size, 0, none⟩) (by show wo.heap.size ≠ w2.heap.size; omega) (.string at0.name)).far (p := ⟨w2.heap.size, 1, none⟩) (by show wo.heap.size ≠ w2.heap.size; omega) (.string at0.value))
        have bx4 := Lib.hid ((bx3.far (p := ⟨w2.heap.size, 0, none⟩) (by show w1.heap.size ≠ w2.heap.size; omega) (.string at0.name)).far (p := ⟨w2.heap.size, 1, none⟩) (by show w1.heap.size ≠ w2.heap.size; omega) (.string at0.value))
        have hmap4 := Lib.hid ((hmap3.setCell (a := ⟨w2.heap.size, 0, none⟩) (by show w1.heap.size + 1 ≠ w2.heap.size; omega) (.string at0.name)).setCell (a := ⟨w2.heap.size, 1, none⟩) (by show w1.heap.size + 1 ≠ w2.heap.size; omega) (.string at0.value))
        have hvan : ∀ b, va.ownBlock = some b → b ≠ w2.heap.size := fun b h => by have := (hown2.lt b h).2; omega
        clear hb3 bz2' bx2' ba2' hmap2' hown2'
        have hown4 := Lib.hid (own_off (g := w2.heap.size) (j := 1) (own_off (g := w2.heap.size) (j := 0) hown3 hvan (.string at0.name)) hvan (.string at0.value))
        have hbW4 := Lib.hid (two_below hbW3.out (g := w2.heap.size) (.string at0.name) (.string at0.value) (by omega))
        go_upto_region 11 with fail
        have hz4 : ((w3.setCell ⟨w2.heap.size, 0, none⟩ (.string at0.name)).setCell ⟨w2.heap.size, 1, none⟩ (.string at0.value)).heap.size = w3.heap.size := by simp
        clear bz3 bx3 ba3 hmap3 hown3 hbW3 y0 y1 fy
        generalize (w3.setCell ⟨w2.heap.size, 0, none⟩ (.string at0.name)).setCell ⟨w2.heap.size, 1, none⟩ (.string at0.value) = w4 at *
        have y0 := ba4.out.cell (i := 0) rfl
        have y1 := ba4.out.cell (i := 1) rfl
        have hkey : keyOf Tryz.prog 9 (.string at0.name) = some (.string at0.name.data.toList) := WideMaps.keyOf_string_mk Tryz.underlying9 (s := at0.name) (by unfold maxLen; omega)
        have hhas := has_stood acc at0.name
        go_upto_region 12 with (at_lookup; refine wpList_lookup_own_unit _ rfl _ _ 115 rfl 9 116 keyS Tryz.underlying115 (zeroUnit _) (w1.heap.size + 1) n _ rfl hmap4.out _ _ rfl hkey ?_)
        have hmeas : strLen (.string (M5.bs R2)) < strLen (.string rt) := by
          show (M5.bs R2).size < rt.size
          rw [hrt.out, bs_size, bs_size]
          omega
        have hz4' : w1.heap.size + 2 ≤ w4.heap.size := by omega
        cases hhad : (acc.any fun b => M3.eqB b.name at0.name)
        · have hadd : M5.addT acc at0 = acc ++ [at0] := by rw [M5.addT, hhad]; rfl
          rw [hadd] at hv2
          have hcA : cellsA acc ++ [.string at0.name, .string at0.value] = cellsA (acc ++ [at0]) := by rw [cellsA_append]; rfl
          replace hhas := Lib.hid hhas
          replace hhad := Lib.hid hhad
          replace hcA := Lib.hid hcA
          replace hadd := Lib.hid hadd
          clear y0 y1
          have y0 := (ba4.out.alloc (.cells #[] 116)).cell (i := 0) rfl
          go_upto_region 14 with (at_mapUpdate; refine wpList_mapUpdate_own _ rfl _ _ _ 115 rfl 9 116 keyS Tryz.underlying115 (unitElem (H := Unit)) (w1.heap.size + 1) n _ rfl (hmap4.out.alloc _) (by unfold maxLen; omega) _ _ _ rfl rfl hkey _ [] unitElem_mk ?_; intro w5 hmap5 hgrow5)
          have ba5 := (ba4.out.alloc (.cells #[] 116)).keep (hgrow5.block _ (ba4.out.alloc _).lt (by intro h; have := Option.some.inj h; omega))
          have bz5 := (bz4.out.alloc (.cells #[] 116)).keep (hgrow5.block _ (bz4.out.alloc _).lt (by intro h; have := Option.some.inj h; omega))
          have bx5 := (bx4.out.alloc (.cells #[] 116)).keep (hgrow5.block _ (bx4.out.alloc _).lt (by intro h; have := Option.some.inj h; omega))
          have hown5 := Lib.hid ((hown4.out.alloc (.cells #[] 116)).kept hgrow5 (Or.inr (fun h => by have := (hown4.out.lt _ h).1; omega)))
          have hbW5 := Lib.hid ((hbW4.out.alloc hbW4.out.size (.cells #[] 116)).grown hgrow5 (by have := hbW4.out.size; simp; omega) (fun k hk => by cases hk; omega))
          have hs5 : w4.heap.size + 1 ≤ w5.heap.size := by have := hgrow5.size; simpa using this
          have y0 := ba5.cell (i := 0) rfl
          have y1 := ba5.cell (i := 1) rfl
          obtain ⟨sa, cap, rfl⟩ := own_slice5 hown4.out
          have x2 := bx5.cell (i := 2) rfl
          replace hmap5 := Lib.hid hmap5
          replace hgrow5 := Lib.hid hgrow5
          go_wp2_with (at_builtin; refine wpList_appOne w5 [.string at0.name, .string at0.value] rfl _ _ 39 43 rfl (w1.heap.size + 2) 2 Tryz.underlying39 infoA5 rfl (by omega) _ acc.length (cellsA acc) rfl hown5.out (w5.heap.size) rfl (by rfl) rfl (by simp [Value.oneCell']) (by omega) (by omega) (by omega) ?_; intro gg cap' w6 hown6 hgrow6 hat6; have bx6 := bx5.keep (hgrow6.block _ bx5.lt (fun e => by have := (hown5.out.lt _ e.symm).1; omega)); have bz6 := bz5.keep (hgrow6.block _ bz5.lt (fun e => by have := (hown5.out.lt _ e.symm).1; omega)); have c6 := bx6.cell (i := 2) rfl; have f6 := bx6.free 2)
          have hb6 := hbW5.out.grown hgrow6 hbW5.out.size (fun g hg => by have := (hown5.out.lt g hg).1; omega)
          have hb7 : Below wo.heap.size wo (w6.setCell ⟨w1.heap.size, 2, none⟩ (.slice (some ⟨gg, 0, none⟩) (acc.length + 1) cap')) := hb6.setCell (p := ⟨w1.heap.size, 2, none⟩) (by show wo.heap.size ≤ w1.heap.size; omega) _
          have bz7 := bz6.far (p := ⟨w1.heap.size, 2, none⟩) (by show wo.heap.size ≠ w1.heap.size; omega) (.slice (some ⟨gg, 0, none⟩) (acc.length + 1) cap')
          have bx7 := bx6.set 2 (.slice (some ⟨gg, 0, none⟩) (acc.length + 1) cap')
          have hown7 := own_set (g := w1.heap.size) (j := 2) hown6 (by omega) (.slice (some ⟨gg, 0, none⟩) (acc.length + 1) cap')
          have hmap7 := (hmap5.out.kept hgrow6 (fun h => by have := (hown5.out.lt _ h.symm).1; omega)).setCell (a := ⟨w1.heap.size, 2, none⟩) (by show w1.heap.size + 1 ≠ w1.heap.size; omega) (.slice (some ⟨gg, 0, none⟩) (acc.length + 1) cap')
          have hz6 := hgrow6.size
          rw [hcA.out] at hown7
          rw [← stood_snoc] at hmap7
          go_roundw
          case rel => exact ⟨R2, acc ++ [at0], .slice (some ⟨gg, 0, none⟩) (acc.length + 1) cap', n + 1, by rw [List.length_append]; show acc.length + 1 + R2.length ≤ s.size; omega, rfl, by rw [List.length_append]; show n + 1 ≤ acc.length + 1; omega, bz7, bx7, hmap7, by rw [List.length_append]; exact hown7, hb7, by simp; omega, hv2⟩
          case measure => exact hmeas
        · have hadd : M5.addT acc at0 = acc := by rw [M5.addT, hhad]; rfl
          rw [hadd] at hv2
          replace hhas := Lib.hid hhas
          replace hhad := Lib.hid hhad
          go_wp2_with fail
          go_roundw
          case rel => exact ⟨R2, acc, va, n, by omega, rfl, hn, bz4.out.alloc _, bx4.out.alloc _, hmap4.out.alloc _, hown4.out.alloc _, hbW4.out.alloc hbW4.out.size _, by simp; omega, hv2⟩
          case measure => exact hmeas
end Go.Proofs.YteefodibpjgicaaGreat

namespace Go.Proofs.YteefodibpjgicaaGreat
open Go.RowKit
theorem tag_code (c d : UInt8) (r : List UInt8) (h : M5.startsB (c :: d :: r) = true) (hd : M5.letterB d = false) : M5.tagR (c :: d :: r) =
    if d = 47 ∧ (r.head?.map M5.letterB) = some true then M5.endR r
    else if [60, 47, 62].isPrefixOf (c :: d :: r) then (M5.zero, (c :: d :: r).drop 3)
    else if [60, 33, 45, 45].isPrefixOf (c :: d :: r) then M5.remarkR [45, 45, 62] ((c :: d :: r).drop 4)
    else M5.remarkR [62] r := by
  rw [tag_else c d r h hd]
  by_cases hA : d = 47 ∧ (r.head?.map M5.letterB) = some true
  · have h1 : [60, 33, 45, 45].isPrefixOf (c :: d :: r) = false := by
      rw [hA.1]
      show (60 == c && (33 == (47 : UInt8) && _)) = false
      rw [show ((33 : UInt8) == 47) = false from by decide, Bool.false_and, Bool.and_false]
    have h2 : [60, 47, 62].isPrefixOf (c :: d :: r) = false := by
      cases r with
      | nil => simp at hA
      | cons e t =>
        have he : M5.letterB e = true := by simpa using hA.2
        have h62 : ((62 : UInt8) == e) = false := by
          rw [beq_eq_false_iff_ne]
          intro x
          subst x
          exact absurd he (by decide)
        show (60 == c && (47 == d && (62 == e && _))) = false
        rw [h62, Bool.false_and, Bool.and_false, Bool.and_false]
    rw [h1, h2, if_neg Bool.false_ne_true, if_neg Bool.false_ne_true, if_pos hA, if_pos hA]
    rfl
  · rw [if_neg hA, if_neg hA]
    by_cases h4 : [60, 33, 45, 45].isPrefixOf (c :: d :: r) = true
    · have h3 : [60, 47, 62].isPrefixOf (c :: d :: r) = false := by
        have : d = 33 := by
          have h4' : (60 == c && (33 == d && [45, 45].isPrefixOf r)) = true := h4
          simp only [Bool.and_eq_true, beq_iff_eq] at h4'
          exact h4'.2.1.symm
        subst this
        show (60 == c && (47 == (33 : UInt8) && _)) = false
        rw [show ((47 : UInt8) == 33) = false from by decide, Bool.false_and, Bool.and_false]
      rw [if_pos h4, h3, if_neg Bool.false_ne_true, if_pos h4]
      rfl
    · rw [if_neg h4, if_neg h4]
      rfl
theorem letter_ask (c : UInt8) : M5.letterB c = askR M5.letterB c.toNat := by
  by_cases hc : c.toNat < 128
  · rw [ask_low _ _ hc]
  · unfold askR
    rw [if_neg hc]
    unfold M5.letterB
    rw [Bool.eq_iff_iff]
    simp
    omega
theorem remark_at (s first last : ByteArray) (k : Nat) (hk : first.size = k) (hs : s.size ≤ 1073741824) (hf : k ≤ s.size) (hl : last.data.toList ≠ []) (P : Tok × List UInt8) (hP : P = M5.remarkR last.data.toList (s.data.toList.drop k)) :
    ∀ w, Glo w → Calls Tryz.prog 165 #[.string s, .string first, .string last] w (TokPost P.1 (s.size - P.2.length) w) := by
  subst hk hP
  exact fun w hg => tokRemark s first last w hg hs hf hl
set_option maxHeartbeats 8000000 in
set_option maxRecDepth 100000 in
theorem tokTag (s : ByteArray) (w : World) (hg : Glo w) (hs : s.size ≤ 1073741824) : Calls Tryz.prog 158 #[.string s] w (TokPost (M5.tagR s.data.toList).1 (s.size - (M5.tagR s.data.toList).2.length) w) := by
  have hst := Lib.hid (fun w => tokStarts s w hs)
  obtain ⟨wo, rfl⟩ : ∃ wo : World, wo = w := ⟨_, rfl⟩
  have bx0 := Box.new wo 87 [.int .i64 0, .string ⟨#[]⟩, .slice none 0 0, .string ⟨#[]⟩]
  have hb0 := (Below.refl _ wo).alloc (Nat.le_refl _) (.cells #[.int .i64 0, .string ⟨#[]⟩, .slice none 0 0, .string ⟨#[]⟩] 87)
  have hg0 := Lib.hid (hg.below hb0 (Nat.le_refl _))
  replace hb0 := Lib.hid hb0
  have fin : ∀ (t : Tok) (n : Nat) (w2 : World) (va : Value), Below (wo.alloc (.cells #[.int .i64 0, .string ⟨#[]⟩, .slice none 0 0, .string ⟨#[]⟩] 87)).heap.size (wo.alloc (.cells #[.int .i64 0, .string ⟨#[]⟩, .slice none 0 0, .string ⟨#[]⟩] 87)) w2 → w2.ownsRow (wo.alloc (.cells #[.int .i64 0, .string ⟨#[]⟩, .slice none 0 0, .string ⟨#[]⟩] 87)).heap.size 43 2 va t.attrs.length (cellsA t.attrs) →
      Box w2 wo.heap.size 87 [.int .i64 0, .string ⟨#[]⟩, .slice none 0 0, .string ⟨#[]⟩] ∧ (∃ a c, va = .slice a t.attrs.length c) ∧ Hid (Box ((((w2.setCell ⟨wo.heap.size, 0, none⟩ (.int .i64 t.kind)).setCell ⟨wo.heap.size, 1, none⟩ (.string t.name)).setCell ⟨wo.heap.size, 2, none⟩ va).setCell ⟨wo.heap.size, 3, none⟩ (.string t.text)) wo.heap.size 87 [.int .i64 t.kind, .string t.name, va, .string t.text]) ∧
        Hid (TokPost t n wo (.returned (.tuple #[.agg #[.int .i64 t.kind, .string t.name, va, .string t.text], .int .i64 (n : Int)])) ((((w2.setCell ⟨wo.heap.size, 0, none⟩ (.int .i64 t.kind)).setCell ⟨wo.heap.size, 1, none⟩ (.string t.name)).setCell ⟨wo.heap.size, 2, none⟩ va).setCell ⟨wo.heap.size, 3, none⟩ (.string t.text))) := by
    intro t n w2 va hb ho
    have bx2 := bx0.below hb bx0.lt
    refine ⟨bx2, own_slice5 ho, Lib.hid (bx2.four _ _ _ _), Lib.hid (tokPost_own rfl (own_four (g := wo.heap.size) ho (by simp) _ _ _ _) (by simp) (four_below (bt hb0.out hb) _ _ _ _ (Nat.le_refl _)))⟩
  replace fin := Lib.hid fin
  cases hsB : M5.startsB s.data.toList
  · have hP := Lib.hid (tag_no _ hsB)
    generalize M5.tagR s.data.toList = P at *
    have z0 := bx0.cell (i := 0) rfl
    have z1 := bx0.cell (i := 1) rfl
    have z2 := bx0.cell (i := 2) rfl
    have z3 := bx0.cell (i := 3) rfl
    have fz := bx0.free
    go_enter Tryz.func158, Tryz.ntmps158
    go_wp2_with (go_at_call 161; refine (hst.out _).mono ?_; rintro e1 w2 ⟨rfl, rfl⟩; rw [hsB])
    exact bodyPost_ret (v := .tuple #[.agg #[.int .i64 0, .string ⟨#[]⟩, .slice none 0 0, .string ⟨#[]⟩], .int .i64 0]) (by simp [results, Tryz.results158, go_sem, z0, z1, z2, z3]) rfl (by rw [hP.out]; exact tokPost_nil (by rw [List.drop_zero]; show _ = ((s.size - s.data.toList.length : Nat) : Int); rw [show s.data.toList.length = s.size from rfl]; omega) hb0.out)
  · obtain ⟨h2, hl⟩ := two_signs hsB
    have i0 : 0 < s.size := by omega
    have hle : Hid (∀ w, Calls Tryz.prog 162 #[.int .i32 (wrap32 (s[1].toNat : Int))] w (BoolPost (M5.letterB s[1]) w)) := Lib.hid (fun w => by rw [wrap32_byte, letter_ask]; exact tokLetter s[1].toNat w)
    cases hlt : M5.letterB s[1]
    · have hc := tag_code s[0] s[1] (s.data.toList.drop 2) (by rw [← hl]; exact hsB) hlt
      rw [← hl] at hc
      have e47 : ((s[1].toNat : Int) == 47) = (s[1] == 47) := (eqI _ 47).symm
      have h3 : 2 < s.size → (s.data.toList.drop 2).head? = s[2]? := fun h => by
        rw [drop_cons s 2 h]
        exact (getElem?_pos s 2 h).symm
      by_cases hA : s[1] = 47 ∧ ((s.data.toList.drop 2).head?.map M5.letterB) = some true
      · have h2s : 2 < s.size := by
          rcases Nat.lt_or_ge 2 s.size with h | h
          · exact h
          · have := hA.2
            rw [drop_end s 2 h] at this
            cases this
        have hl2 : M5.letterB s[2] = true := by
          have := hA.2
          rw [drop_cons s 2 h2s] at this
          exact Option.some.inj this
        have hle2 : Hid (∀ w, Calls Tryz.prog 162 #[.int .i32 (wrap32 (s[2].toNat : Int))] w (BoolPost true w)) := Lib.hid (fun w => by rw [wrap32_byte, ← hl2, letter_ask]; exact tokLetter s[2].toNat w)
        rw [if_pos hA] at hc
        have hE := Lib.hid (fun w => tokEnd s w hs (by omega))
        rw [← hc] at hE
        have hx47 : ((s[1].toNat : Int) == 47) = true := by rw [e47]; exact beq_iff_eq.2 hA.1
        generalize (M5.tagR s.data.toList).1 = t at *
        generalize s.size - (M5.tagR s.data.toList).2.length = n at *
        replace hl := Lib.hid hl
        replace hc := Lib.hid hc
        replace hA := Lib.hid hA
        clear e47 h3
        go_enter Tryz.func158, Tryz.ntmps158
        go_wp2_with fail
        refine (hst.out _).mono ?_
        rintro e1 w2 ⟨rfl, rfl⟩
        rw [hsB]
        go_wp2_with fail
        refine (hle.out _).mono ?_
        rintro e1 w2 ⟨rfl, rfl⟩
        rw [hlt]
        go_wp2_with fail
        refine (hle2.out _).mono ?_
        rintro e1 w2 ⟨rfl, rfl⟩
        go_wp2_with fail
        refine (hE.out _).mono ?_
        rintro e1 w2 ⟨va, rfl, hown, hb2⟩
        obtain ⟨bx2, ⟨a2, c2, rfl⟩, bf, hpost⟩ := fin.out t n w2 va hb2 hown
        have z0 := bx2.cell (i := 0) rfl
        have z1 := bx2.cell (i := 1) rfl
        have z2 := bx2.cell (i := 2) rfl
        have z3 := bx2.cell (i := 3) rfl
        have fz := bx2.free
        clear hown hb2
        go_wp2_with fail
        have q0 := bf.out.cell (i := 0) rfl
        have q1 := bf.out.cell (i := 1) rfl
        have q2 := bf.out.cell (i := 2) rfl
        have q3 := bf.out.cell (i := 3) rfl
        exact bodyPost_ret (v := .tuple #[.agg #[.int .i64 t.kind, .string t.name, .slice a2 t.attrs.length c2, .string t.text], .int .i64 (n : Int)]) (by simp [results, Tryz.results158, go_sem, q0, q1, q2, q3]) rfl hpost.out
      · rw [if_neg hA] at hc
        have hguard : ((s[1] == 47) = false) ∨ ((s[1] == 47) = true ∧ ¬ 2 < s.size) ∨ ((s[1] == 47) = true ∧ ∃ h : 2 < s.size, M5.letterB s[2] = false) := by
          by_cases h1 : s[1] = 47
          · by_cases h2s : 2 < s.size
            · refine .inr (.inr ⟨beq_iff_eq.2 h1, h2s, ?_⟩)
              rcases Bool.eq_false_or_eq_true (M5.letterB s[2]) with h | h
              · exact absurd ⟨h1, by rw [drop_cons s 2 h2s]; exact congrArg some h⟩ hA
              · exact h
            · exact .inr (.inl ⟨beq_iff_eq.2 h1, h2s⟩)
          · exact .inl (beq_eq_false_iff_ne.2 h1)
        rw [← e47] at hguard
        replace hA := Lib.hid hA
        clear h3 e47
        cases hp3 : Lib.hasPrefix s.data.toList [60, 47, 62]
        · rw [show [60, 47, 62].isPrefixOf s.data.toList = false from hp3, if_neg Bool.false_ne_true] at hc
          cases hp4 : Lib.hasPrefix s.data.toList [60, 33, 45, 45]
          · rw [show [60, 33, 45, 45].isPrefixOf s.data.toList = false from hp4, if_neg Bool.false_ne_true] at hc
            have hcall := Lib.hid (remark_at s (s.extract 0 2) ⟨#[62]⟩ 2 (by rw [ByteArray.size_extract]; omega) hs (by omega) (by simp) _ hc)
            generalize (M5.tagR s.data.toList).1 = t at *
            generalize s.size - (M5.tagR s.data.toList).2.length = n at *
            replace hl := Lib.hid hl
            replace hc := Lib.hid hc
            rcases hguard with h47 | ⟨h47, h2n⟩ | ⟨h47, h2s, hl2⟩
            · go_enter Tryz.func158, Tryz.ntmps158
              go_wp2_with fail
              refine (hst.out _).mono ?_
              rintro e1 w2 ⟨rfl, rfl⟩
              rw [hsB]
              go_wp2_with fail
              refine (hle.out _).mono ?_
              rintro e1 w2 ⟨rfl, rfl⟩
              rw [hlt]
              go_wp2_with fail
              refine (hasPrefix_any _ _ _).mono ?_
              rintro e1 w2 ⟨rfl, rfl⟩
              rw [hp3]
              go_wp2_with fail
              refine (hasPrefix_any _ _ _).mono ?_
              rintro e1 w2 ⟨rfl, rfl⟩
              rw [hp4]
              go_wp2_with fail
              refine (hcall.out _ hg0.out).mono ?_
              rintro e1 w2 ⟨va, rfl, hown, hb2⟩
              obtain ⟨bx2, ⟨a2, c2, rfl⟩, bf, hpost⟩ := fin.out t n w2 va hb2 hown
              have z0 := bx2.cell (i := 0) rfl
              have z1 := bx2.cell (i := 1) rfl
              have z2 := bx2.cell (i := 2) rfl
              have z3 := bx2.cell (i := 3) rfl
              have fz := bx2.free
              clear hown hb2
              go_wp2_with fail
              have q0 := bf.out.cell (i := 0) rfl
              have q1 := bf.out.cell (i := 1) rfl
              have q2 := bf.out.cell (i := 2) rfl
              have q3 := bf.out.cell (i := 3) rfl
              exact bodyPost_ret (v := .tuple #[.agg #[.int .i64 t.kind, .string t.name, .slice a2 t.attrs.length c2, .string t.text], .int .i64 (n : Int)]) (by simp [results, Tryz.results158, go_sem, q0, q1, q2, q3]) rfl hpost.out
            · go_enter Tryz.func158, Tryz.ntmps158
              go_wp2_with fail
              refine (hst.out _).mono ?_
              rintro e1 w2 ⟨rfl, rfl⟩
              rw [hsB]
              go_wp2_with fail
              refine (hle.out _).mono ?_
              rintro e1 w2 ⟨rfl, rfl⟩
              rw [hlt]
              go_wp2_with fail
              refine (hasPrefix_any _ _ _).mono ?_
              rintro e1 w2 ⟨rfl, rfl⟩
              rw [hp3]
              go_wp2_with fail
              refine (hasPrefix_any _ _ _).mono ?_
              rintro e1 w2 ⟨rfl, rfl⟩
              rw [hp4]
              go_wp2_with fail
              refine (hcall.out _ hg0.out).mono ?_
              rintro e1 w2 ⟨va, rfl, hown, hb2⟩
              obtain ⟨bx2, ⟨a2, c2, rfl⟩, bf, hpost⟩ := fin.out t n w2 va hb2 hown
              have z0 := bx2.cell (i := 0) rfl
              have z1 := bx2.cell (i := 1) rfl
              have z2 := bx2.cell (i := 2) rfl
              have z3 := bx2.cell (i := 3) rfl
              have fz := bx2.free
              clear hown hb2
              go_wp2_with fail
              have q0 := bf.out.cell (i := 0) rfl
              have q1 := bf.out.cell (i := 1) rfl
              have q2 := bf.out.cell (i := 2) rfl
              have q3 := bf.out.cell (i := 3) rfl
              exact bodyPost_ret (v := .tuple #[.agg #[.int .i64 t.kind, .string t.name, .slice a2 t.attrs.length c2, .string t.text], .int .i64 (n : Int)]) (by simp [results, Tryz.results158, go_sem, q0, q1, q2, q3]) rfl hpost.out
            · have hle2 : Hid (∀ w, Calls Tryz.prog 162 #[.int .i32 (wrap32 (s[2].toNat : Int))] w (BoolPost false w)) := Lib.hid (fun w => by rw [wrap32_byte, ← hl2, letter_ask]; exact tokLetter s[2].toNat w)
              go_enter Tryz.func158, Tryz.ntmps158
              go_wp2_with fail
              refine (hst.out _).mono ?_
              rintro e1 w2 ⟨rfl, rfl⟩
              rw [hsB]
              go_wp2_with fail
              refine (hle.out _).mono ?_
              rintro e1 w2 ⟨rfl, rfl⟩
              rw [hlt]
              go_wp2_with fail
              refine (hle2.out _).mono ?_
              rintro e1 w2 ⟨rfl, rfl⟩
              go_wp2_with fail
              refine (hasPrefix_any _ _ _).mono ?_
              rintro e1 w2 ⟨rfl, rfl⟩
              rw [hp3]
              go_wp2_with fail
              refine (hasPrefix_any _ _ _).mono ?_
              rintro e1 w2 ⟨rfl, rfl⟩
              rw [hp4]
              go_wp2_with fail
              refine (hcall.out _ hg0.out).mono ?_
              rintro e1 w2 ⟨va, rfl, hown, hb2⟩
              obtain ⟨bx2, ⟨a2, c2, rfl⟩, bf, hpost⟩ := fin.out t n w2 va hb2 hown
              have z0 := bx2.cell (i := 0) rfl
              have z1 := bx2.cell (i := 1) rfl
              have z2 := bx2.cell (i := 2) rfl
              have z3 := bx2.cell (i := 3) rfl
              have fz := bx2.free
              clear hown hb2
              go_wp2_with fail
              have q0 := bf.out.cell (i := 0) rfl
              have q1 := bf.out.cell (i := 1) rfl
              have q2 := bf.out.cell (i := 2) rfl
              have q3 := bf.out.cell (i := 3) rfl
              exact bodyPost_ret (v := .tuple #[.agg #[.int .i64 t.kind, .string t.name, .slice a2 t.attrs.length c2, .string t.text], .int .i64 (n : Int)]) (by simp [results, Tryz.results158, go_sem, q0, q1, q2, q3]) rfl hpost.out
          · rw [show [60, 33, 45, 45].isPrefixOf s.data.toList = true from hp4, if_pos rfl] at hc
            have h4s : 4 ≤ s.size := by
              have h' : [60, 33, 45, 45].isPrefixOf s.data.toList = true := hp4
              have := (List.isPrefixOf_iff_prefix.1 h').length_le
              exact this
            have hcall := Lib.hid (remark_at s ⟨#[60, 33, 45, 45]⟩ ⟨#[45, 45, 62]⟩ 4 rfl hs (by omega) (by simp) _ hc)
            generalize (M5.tagR s.data.toList).1 = t at *
            generalize s.size - (M5.tagR s.data.toList).2.length = n at *
            replace hl := Lib.hid hl
            replace hc := Lib.hid hc
            rcases hguard with h47 | ⟨h47, h2n⟩ | ⟨h47, h2s, hl2⟩
            · go_enter Tryz.func158, Tryz.ntmps158
              go_wp2_with fail
              refine (hst.out _).mono ?_
              rintro e1 w2 ⟨rfl, rfl⟩
              rw [hsB]
              go_wp2_with fail
              refine (hle.out _).mono ?_
              rintro e1 w2 ⟨rfl, rfl⟩
              rw [hlt]
              go_wp2_with fail
              refine (hasPrefix_any _ _ _).mono ?_
              rintro e1 w2 ⟨rfl, rfl⟩
              rw [hp3]
              go_wp2_with fail
              refine (hasPrefix_any _ _ _).mono ?_
              rintro e1 w2 ⟨rfl, rfl⟩
              rw [hp4]
              go_wp2_with fail
              refine (hcall.out _ hg0.out).mono ?_
              rintro e1 w2 ⟨va, rfl, hown, hb2⟩
              obtain ⟨bx2, ⟨a2, c2, rfl⟩, bf, hpost⟩ := fin.out t n w2 va hb2 hown
              have z0 := bx2.cell (i := 0) rfl
              have z1 := bx2.cell (i := 1) rfl
              have z2 := bx2.cell (i := 2) rfl
              have z3 := bx2.cell (i := 3) rfl
              have fz := bx2.free
              clear hown hb2
              go_wp2_with fail
              have q0 := bf.out.cell (i := 0) rfl
              have q1 := bf.out.cell (i := 1) rfl
              have q2 := bf.out.cell (i := 2) rfl
              have q3 := bf.out.cell (i := 3) rfl
              exact bodyPost_ret (v := .tuple #[.agg #[.int .i64 t.kind, .string t.name, .slice a2 t.attrs.length c2, .string t.text], .int .i64 (n : Int)]) (by simp [results, Tryz.results158, go_sem, q0, q1, q2, q3]) rfl hpost.out
            · exact absurd h2n (by omega)
            · have hle2 : Hid (∀ w, Calls Tryz.prog 162 #[.int .i32 (wrap32 (s[2].toNat : Int))] w (BoolPost false w)) := Lib.hid (fun w => by rw [wrap32_byte, ← hl2, letter_ask]; exact tokLetter s[2].toNat w)
              go_enter Tryz.func158, Tryz.ntmps158
              go_wp2_with fail
              refine (hst.out _).mono ?_
              rintro e1 w2 ⟨rfl, rfl⟩
              rw [hsB]
              go_wp2_with fail
              refine (hle.out _).mono ?_
              rintro e1 w2 ⟨rfl, rfl⟩
              rw [hlt]
              go_wp2_with fail
              refine (hle2.out _).mono ?_
              rintro e1 w2 ⟨rfl, rfl⟩
              go_wp2_with fail
              refine (hasPrefix_any _ _ _).mono ?_
              rintro e1 w2 ⟨rfl, rfl⟩
              rw [hp3]
              go_wp2_with fail
              refine (hasPrefix_any _ _ _).mono ?_
              rintro e1 w2 ⟨rfl, rfl⟩
              rw [hp4]
              go_wp2_with fail
              refine (hcall.out _ hg0.out).mono ?_
              rintro e1 w2 ⟨va, rfl, hown, hb2⟩
              obtain ⟨bx2, ⟨a2, c2, rfl⟩, bf, hpost⟩ := fin.out t n w2 va hb2 hown
              have z0 := bx2.cell (i := 0) rfl
              have z1 := bx2.cell (i := 1) rfl
              have z2 := bx2.cell (i := 2) rfl
              have z3 := bx2.cell (i := 3) rfl
              have fz := bx2.free
              clear hown hb2
              go_wp2_with fail
              have q0 := bf.out.cell (i := 0) rfl
              have q1 := bf.out.cell (i := 1) rfl
              have q2 := bf.out.cell (i := 2) rfl
              have q3 := bf.out.cell (i := 3) rfl
              exact bodyPost_ret (v := .tuple #[.agg #[.int .i64 t.kind, .string t.name, .slice a2 t.attrs.length c2, .string t.text], .int .i64 (n : Int)]) (by simp [results, Tryz.results158, go_sem, q0, q1, q2, q3]) rfl hpost.out
        · rw [show [60, 47, 62].isPrefixOf s.data.toList = true from hp3, if_pos rfl] at hc
          have h3s : 3 ≤ s.size := by
            have h' : [60, 47, 62].isPrefixOf s.data.toList = true := hp3
            have := (List.isPrefixOf_iff_prefix.1 h').length_le
            exact this
          have hz3 : Hid (TokPost (M5.tagR s.data.toList).1 (s.size - (M5.tagR s.data.toList).2.length) wo (.returned (.tuple #[.agg #[.int .i64 0, .string ⟨#[]⟩, .slice none 0 0, .string ⟨#[]⟩], .int .i64 3])) (wo.alloc (.cells #[.int .i64 0, .string ⟨#[]⟩, .slice none 0 0, .string ⟨#[]⟩] 87))) := by
            show TokPost _ _ _ _ _
            rw [hc]
            exact tokPost_nil (by show _ = ((s.size - (s.data.toList.drop 3).length : Nat) : Int); rw [List.length_drop, show s.data.toList.length = s.size from rfl]; omega) hb0.out
          have z0 := bx0.cell (i := 0) rfl
          have z1 := bx0.cell (i := 1) rfl
          have z2 := bx0.cell (i := 2) rfl
          have z3 := bx0.cell (i := 3) rfl
          have fz := bx0.free
          generalize (M5.tagR s.data.toList).1 = t at *
          generalize s.size - (M5.tagR s.data.toList).2.length = n at *
          replace hl := Lib.hid hl
          replace hc := Lib.hid hc
          rcases hguard with h47 | ⟨h47, h2n⟩ | ⟨h47, h2s, hl2⟩
          · go_enter Tryz.func158, Tryz.ntmps158
            go_wp2_with fail
            refine (hst.out _).mono ?_
            rintro e1 w2 ⟨rfl, rfl⟩
            rw [hsB]
            go_wp2_with fail
            refine (hle.out _).mono ?_
            rintro e1 w2 ⟨rfl, rfl⟩
            rw [hlt]
            go_wp2_with fail
            refine (hasPrefix_any _ _ _).mono ?_
            rintro e1 w2 ⟨rfl, rfl⟩
            rw [hp3]
            go_wp2_with fail
            exact bodyPost_ret (v := .tuple #[.agg #[.int .i64 0, .string ⟨#[]⟩, .slice none 0 0, .string ⟨#[]⟩], .int .i64 3]) (by simp [results, Tryz.results158, go_sem, z0, z1, z2, z3]) rfl hz3.out
          · exact absurd h2n (by omega)
          · have hle2 : Hid (∀ w, Calls Tryz.prog 162 #[.int .i32 (wrap32 (s[2].toNat : Int))] w (BoolPost false w)) := Lib.hid (fun w => by rw [wrap32_byte, ← hl2, letter_ask]; exact tokLetter s[2].toNat w)
            go_enter Tryz.func158, Tryz.ntmps158
            go_wp2_with fail
            refine (hst.out _).mono ?_
            rintro e1 w2 ⟨rfl, rfl⟩
            rw [hsB]
            go_wp2_with fail
            refine (hle.out _).mono ?_
            rintro e1 w2 ⟨rfl, rfl⟩
            rw [hlt]
            go_wp2_with fail
            refine (hle2.out _).mono ?_
            rintro e1 w2 ⟨rfl, rfl⟩
            go_wp2_with fail
            refine (hasPrefix_any _ _ _).mono ?_
            rintro e1 w2 ⟨rfl, rfl⟩
            rw [hp3]
            go_wp2_with fail
            exact bodyPost_ret (v := .tuple #[.agg #[.int .i64 0, .string ⟨#[]⟩, .slice none 0 0, .string ⟨#[]⟩], .int .i64 3]) (by simp [results, Tryz.results158, go_sem, z0, z1, z2, z3]) rfl hz3.out
    · have hP : Hid (M5.tagR s.data.toList = M5.beginR s.data.toList) := by
        show _ = _
        rw [hl] at hsB ⊢
        exact tag_begin _ _ _ hsB hlt
      have hbg := Lib.hid (fun w => tokBegin s w hs (by omega))
      rw [hP.out]
      clear hP
      generalize (M5.beginR s.data.toList).1 = t at *
      generalize s.size - (M5.beginR s.data.toList).2.length = n at *
      replace hl := Lib.hid hl
      go_enter Tryz.func158, Tryz.ntmps158
      go_wp2_with (first | (go_at_call 161; refine (hst.out _).mono ?_; rintro e1 w2 ⟨rfl, rfl⟩; rw [hsB]) | (go_at_call 162; refine (hle.out _).mono ?_; rintro e1 w2 ⟨rfl, rfl⟩; rw [hlt]))
      refine (hbg.out _).mono ?_
      rintro e1 w2 ⟨va, rfl, hown, hb2⟩
      obtain ⟨bx2, ⟨a2, c2, rfl⟩, bf, hpost⟩ := fin.out t n w2 va hb2 hown
      have z0 := bx2.cell (i := 0) rfl
      have z1 := bx2.cell (i := 1) rfl
      have z2 := bx2.cell (i := 2) rfl
      have z3 := bx2.cell (i := 3) rfl
      have fz := bx2.free
      clear hown hb2
      go_wp2_with fail
      have q0 := bf.out.cell (i := 0) rfl
      have q1 := bf.out.cell (i := 1) rfl
      have q2 := bf.out.cell (i := 2) rfl
      have q3 := bf.out.cell (i := 3) rfl
      exact bodyPost_ret (v := .tuple #[.agg #[.int .i64 t.kind, .string t.name, .slice a2 t.attrs.length c2, .string t.text], .int .i64 (n : Int)]) (by simp [results, Tryz.results158, go_sem, q0, q1, q2, q3]) rfl hpost.out
end Go.Proofs.YteefodibpjgicaaGreat

namespace Go.Proofs.YteefodibpjgicaaGreat
open Go.RowKit
theorem rune_plain (l : List UInt8) (hl : l ≠ []) :
    ((M1.dec l).1 ≠ 60 → M5.plainN l = (M1.dec l).2 + M5.plainN (l.drop (M1.dec l).2)) ∧ ((M1.dec l).1 = 60 → (M1.dec l).2 = 1) := by
  obtain ⟨c, r, rfl⟩ := List.exists_cons_of_ne_nil hl
  have hle := M1.dec_le (c :: r) hl
  by_cases h : c.toNat < 128
  · have e := dec_low _ c r rfl h
    rw [e]
    refine ⟨fun hc => ?_, fun _ => rfl⟩
    refine M5.plainN_skip 1 _ (by simp) (fun k hk => ?_)
    obtain rfl : k = 0 := by omega
    rw [List.drop_zero]
    cases hs : M5.startsB (c :: r)
    · rfl
    · obtain ⟨t, ht⟩ := M5.starts_head _ hs
      have : c = 60 := (List.cons.inj ht).1
      subst this
      exact absurd rfl hc
  · obtain ⟨h1, h2⟩ := dec_high (c :: r) c r rfl (by omega)
    refine ⟨fun _ => ?_, fun hc => by omega⟩
    refine M5.plainN_skip _ _ hle (fun k hk => ?_)
    cases hs : M5.startsB ((c :: r).drop k)
    · rfl
    · obtain ⟨t, ht⟩ := M5.starts_head _ hs
      have hk2 : k < (c :: r).length := by omega
      rw [List.drop_eq_getElem_cons hk2] at ht
      have h3 := h2 k hk hk2
      rw [(List.cons.inj ht).1] at h3
      exact absurd h3 (by decide)
set_option maxHeartbeats 2000000 in
set_option maxRecDepth 100000 in
theorem tokPlain (s : ByteArray) (w : World) (hs : s.size ≤ 1073741824) :
    Calls Tryz.prog 166 #[.string s] w fun e w' => e = .returned (.int .i64 (M5.plainN s.data.toList : Int)) ∧ Below w.heap.size w w' := by
  obtain ⟨N, hN⟩ : ∃ N, Hid (N = M5.plainN s.data.toList) := ⟨_, rfl⟩
  rw [← hN.out]
  obtain ⟨wo, rfl⟩ : ∃ wo : World, wo = w := ⟨_, rfl⟩
  go_enter Tryz.func166, Tryz.ntmps166
  go_wp2_with fail
  go_loopw [] (fun wr => ∃ pos : Nat, pos ≤ s.size ∧ wr.heap[wo.heap.size]? = some (.stringIter s pos) ∧ Below wo.heap.size wo wr ∧ Hid (N = pos + M5.plainN (s.data.toList.drop pos))) (fun wr => s.size - wr.iterPos wo.heap.size)
  case atStart => exact ⟨0, by omega, World.iter_heap wo s 0, (Below.refl _ wo).alloc (Nat.le_refl _) _, by show _ = _; rw [hN.out]; simp⟩
  case round =>
    obtain ⟨pos, hpl, hit, hbw, hv⟩ := hrel
    have hsz : wo.heap.size < wr.heap.size := (Array.getElem?_eq_some_iff.1 hit).1
    by_cases hp : pos < s.size
    · have hp' : pos < s.data.toList.length := hp
      have hne := drop_ne hp'
      have hnx := next_dec (P := Tryz.prog) wr wo.heap.size s pos hit hp
      have hst0 := rune_plain _ hne
      have hw1 := M1.dec_pos _ hne
      have hw2 := M1.dec_le _ hne
      have hlt := M1.dec_lt (s.data.toList.drop pos)
      rw [List.drop_drop] at hst0
      rw [List.length_drop, show s.data.toList.length = s.size from rfl] at hw2
      have hbw1 := Lib.below_iterAt hbw (Nat.le_refl _) s (pos + (M1.dec (s.data.toList.drop pos)).2)
      have hit1 := Lib.iterAt_heap wr wo.heap.size s pos (pos + (M1.dec (s.data.toList.drop pos)).2) hit
      have hS := fun w => tokStarts (s.extract pos s.size) w (by rw [ByteArray.size_extract]; omega)
      rw [dropk_bs, M5.bs_data] at hS
      have hx : Hid (s.extract pos s.size = M5.bs (s.data.toList.drop pos)) := Lib.hid (dropk_bs s pos)
      generalize (M1.dec (s.data.toList.drop pos)).1 = r at *
      generalize (M1.dec (s.data.toList.drop pos)).2 = wd at *
      generalize wr.iterAt wo.heap.size s (pos + wd) = w1 at *
      have hst := Lib.hid hst0
      clear hst0 hne hbw
      replace hS := Lib.hid hS
      by_cases h60 : r = 60
      · have e60 : ((r : Int) == 60) = true := by rw [h60]; rfl
        obtain rfl : wd = 1 := hst.out.2 h60
        cases hb : M5.startsB (s.data.toList.drop pos)
        · have hv2 : Hid (N = pos + 1 + M5.plainN (s.data.toList.drop (pos + 1))) := by
            show _ = _
            rw [hv.out]
            rw [drop_cons s pos hp] at hb ⊢
            rw [M5.plainN, hb, if_neg Bool.false_ne_true]
            omega
          go_wp2_with fail
          rw [hx.out]
          refine (hS.out _).mono ?_
          rintro e1 w2 ⟨rfl, rfl⟩
          rw [hb]
          go_wp2_with fail
          go_roundw
          case rel => exact ⟨pos + 1, by omega, hit1, hbw1, hv2⟩
          case measure => rw [iterPos_of hit1, iterPos_of hit]; omega
        · have hk : N = pos := by rw [hv.out, M5.plainN_yes _ hb]; rfl
          go_wp2_with fail
          rw [hx.out]
          refine (hS.out _).mono ?_
          rintro e1 w2 ⟨rfl, rfl⟩
          rw [hb]
          go_wp2_with fail
          go_ret
          exact ⟨by rw [hk]; rfl, hbw1⟩
      · have e60 : ((r : Int) == 60) = false := by rw [beq_eq_false_iff_ne]; omega
        have hv2 : Hid (N = pos + wd + M5.plainN (s.data.toList.drop (pos + wd))) := by show _ = _; rw [hv.out, hst.out.1 h60]; omega
        go_wp2_with fail
        go_roundw
        case rel => exact ⟨pos + wd, by omega, hit1, hbw1, hv2⟩
        case measure => rw [iterPos_of hit1, iterPos_of hit]; omega
    · have hnx := fun ty => Lib.run_next_end_at (P := Tryz.prog) wr wo.heap.size s pos ty hit hp
      have hk : N = s.size := by rw [hv.out, drop_end s pos (by omega)]; show pos + 0 = _; omega
      go_wp2_with fail
      go_ret
      exact ⟨by rw [hk]; rfl, hbw⟩
set_option maxHeartbeats 2000000 in
set_option maxRecDepth 100000 in
theorem tokChars (s : ByteArray) (w : World) (hs : s.size ≤ 1073741824) : Calls Tryz.prog 159 #[.string s] w (TokPost (M5.charsC s.data.toList) (M5.plainN s.data.toList) w) := by
  have hP := Lib.hid (fun w => tokPlain s w hs)
  have hle : M5.plainN s.data.toList ≤ s.size := M5.plainN_le _
  have hD := fun w => refsDecode (s.extract 0 (M5.plainN s.data.toList)) w (by rw [ByteArray.size_extract]; omega)
  unfold M5.charsC
  obtain ⟨dv, hdv⟩ : ∃ x, Hid (x = M5.bs (M2.decode (s.data.toList.take (M5.plainN s.data.toList)))) := ⟨_, rfl⟩
  have hD1 : Gives1 167 #[.string (s.extract 0 (M5.plainN s.data.toList))] dv := fun w => (hD w).mono (by
    rintro e w' ⟨rfl, hb⟩
    refine ⟨?_, hb⟩
    rw [hdv.out, Lib.extract_data, List.drop_zero, Nat.sub_zero]
    rfl)
  rw [← hdv.out]
  clear hD
  generalize M5.plainN s.data.toList = N at *
  replace hD1 := Lib.hid hD1
  obtain ⟨wo, rfl⟩ : ∃ wo : World, wo = w := ⟨_, rfl⟩
  have bx0 := Box.new wo 87 [.int .i64 0, .string ⟨#[]⟩, .slice none 0 0, .string ⟨#[]⟩]
  have hb0 := Lib.hid ((Below.refl _ wo).alloc (Nat.le_refl _) (.cells #[.int .i64 0, .string ⟨#[]⟩, .slice none 0 0, .string ⟨#[]⟩] 87))
  go_enter Tryz.func159, Tryz.ntmps159
  go_wp2_with fail
  refine (hP.out _).mono ?_
  rintro e1 w1 ⟨rfl, hb1⟩
  have bx1 := bx0.below hb1 bx0.lt
  have hbW1 := Lib.hid (bt hb0.out hb1)
  go_wp2_with fail
  refine (hD1.out _).mono ?_
  rintro e1 w2 ⟨rfl, hb2⟩
  have bx2 := bx1.below hb2 bx1.lt
  have hbW2 := Lib.hid (bt hbW1.out hb2)
  have z0 := bx2.cell (i := 0) rfl
  have z1 := bx2.cell (i := 1) rfl
  have z2 := bx2.cell (i := 2) rfl
  have z3 := bx2.cell (i := 3) rfl
  have fz := bx2.free
  have bf := Lib.hid (bx2.four (.int .i64 3) (.string ⟨#[]⟩) (.slice none 0 0) (.string dv))
  clear hb1 hb2
  go_wp2_with fail
  have q0 := bf.out.cell (i := 0) rfl
  have q1 := bf.out.cell (i := 1) rfl
  have q2 := bf.out.cell (i := 2) rfl
  have q3 := bf.out.cell (i := 3) rfl
  exact bodyPost_ret (v := .tuple #[.agg #[.int .i64 3, .string ⟨#[]⟩, .slice none 0 0, .string dv], .int .i64 (N : Int)]) (by simp [results, Tryz.results159, go_sem, q0, q1, q2, q3]) rfl (tokPost_nil rfl (four_below hbW2.out _ _ _ _ (Nat.le_refl _)))
end Go.Proofs.YteefodibpjgicaaGreat

namespace Go.Proofs.YteefodibpjgicaaGreat
open Go.RowKit Kmp
def rowI (wd : List UInt8) (bk : Nat → Nat) : List Value := (List.range (wd.length + 1)).map fun j => Value.int .i64 (bk j : Int)
theorem rowI_len (wd : List UInt8) (bk : Nat → Nat) : (rowI wd bk).length = wd.length + 1 := by simp [rowI]
theorem rowI_get (wd : List UInt8) (bk : Nat → Nat) (j : Nat) (h : j ≤ wd.length) : (rowI wd bk)[j]? = some (.int .i64 (bk j : Int)) := by
  unfold rowI
  rw [List.getElem?_map, List.getElem?_range (by omega)]
  rfl
structure FMem (wd : List UInt8) (bk : Nat → Nat) (g1 g2 ga : Nat) (w : World) : Prop where
  word : Box w g1 9 [.string (M5.bs wd)]
  slice : Box w g2 82 [.slice (some ⟨ga, 0, none⟩) (wd.length + 1) (wd.length + 1)]
  row : MutRow w ga (rowI wd bk)
theorem mutRow_lt {w : World} {g : Nat} {xs : List Value} (h : MutRow w g xs) (hx : 0 < xs.length) : g < w.heap.size := World.block_lt_of_cell? w ⟨g, 0, none⟩ (h 0 hx).1
theorem mutRow_below {w w' : World} {g B : Nat} {xs : List Value} (h : MutRow w g xs) (hb : Below B w w') (hg : g < B) : MutRow w' g xs := fun j hj => by
  obtain ⟨h1, h2⟩ := h j hj
  exact ⟨by rw [hb.cell (p := ⟨g, j, none⟩) hg]; exact h1, by rw [hb.frozen (p := ⟨g, j, none⟩) hg]; exact h2⟩
theorem FMem.below {wd : List UInt8} {bk : Nat → Nat} {g1 g2 ga : Nat} {w w' : World} (h : FMem wd bk g1 g2 ga w) (hb : Below w.heap.size w w') : FMem wd bk g1 g2 ga w' :=
  ⟨h.word.below hb h.word.lt, h.slice.below hb h.slice.lt, mutRow_below h.row hb (mutRow_lt h.row (by rw [rowI_len]; omega))⟩
theorem pre_one (s : ByteArray) (p : UInt8) (h : 0 < s.size) : M1.prefixB s.data.toList [p] = (M1.small s[0] == p) := by
  have := drop_cons s 0 h
  rw [List.drop_zero] at this
  rw [this]
  show (decide (1 ≤ (s[0] :: s.data.toList.drop 1).length) && ([M1.small s[0]] == [p])) = _
  rw [decide_eq_true (by simp), Bool.true_and]
  show (M1.small s[0] == p && ([] : List UInt8) == []) = _
  simp
theorem one_cut (wd : List UInt8) (h : Nat) (hh : h < wd.length) : ((M5.bs wd).extract h (h + 1)).data.toList = [wd[h]] := by
  rw [Lib.extract_data, M5.bs_data, List.drop_eq_getElem_cons hh, show h + 1 - h = 1 by omega]
  rfl
def StepPost (wd : List UInt8) (h : Nat) (c : UInt8) (w : World) (e : Ending) (w' : World) : Prop := ∃ r : Nat, Strides wd h c r ∧ e = .returned (.int .i64 (r : Int)) ∧ Below w.heap.size w w'
set_option maxHeartbeats 4000000 in
set_option maxRecDepth 100000 in
theorem tokStep (wd : List UInt8) (bk : Nat → Nat) (h M : Nat) (left : ByteArray) (w : World) (g1 g2 ga : Nat) (hm : FMem wd bk g1 g2 ga w) (hw1 : 0 < wd.length) (hw2 : wd.length ≤ 2147483648) (hh : h ≤ wd.length) (hM : h ≤ M) (ht : Tab wd bk M) (hl1 : 0 < left.size) (hl2 : left.size ≤ 1073741826) :
    Calls Tryz.prog 190 #[.int .i64 (h : Int), .string left, .pointer (some ⟨g1, 0, none⟩), .pointer (some ⟨g2, 0, none⟩)] w (StepPost wd h left[0] w) := by
  obtain ⟨wo, rfl⟩ : ∃ wo : World, wo = w := ⟨_, rfl⟩
  have hP := Lib.hid (fun (k : Nat) (hk : k < wd.length) w => utfPrefix left ((M5.bs wd).extract k (k + 1)) w (by omega) (by rw [ByteArray.size_extract]; omega))
  obtain ⟨c, hc⟩ : ∃ c, Hid (c = M1.small left[0]) := ⟨M1.small left[0], Lib.hid rfl⟩
  have hQ : Hid (∀ (k : Nat) (hk : k < wd.length) w, Calls Tryz.prog 191 #[.string left, .string ((M5.bs wd).extract k (k + 1))] w (fun e w' => e = .returned (.bool (c == wd[k])) ∧ Below w.heap.size w w')) := Lib.hid (fun k hk w => (hP.out k hk w).mono (by
    rintro e w' ⟨rfl, hb⟩
    rw [one_cut wd k hk, pre_one left wd[k] hl1, ← hc.out]
    exact ⟨rfl, hb⟩))
  have hbz : (M5.bs wd).size = wd.length := bs_size wd
  have hgoal : ∀ (r : Nat) (w' : World), r ≤ h + 1 → r ≤ wd.length → (∀ u, Low u → IsL wd u h → IsL wd (u ++ [c]) r) → Below wo.heap.size wo w' → StepPost wd h left[0] wo (.returned (.int .i64 (r : Int))) w' := fun r w' h1 h2 h3 hb => ⟨r, ⟨h1, h2, by rw [← hc.out]; exact h3⟩, rfl, hb⟩
  replace hgoal := Lib.hid hgoal
  generalize StepPost wd h left[0] wo = Post at *
  clear hP
  go_enter Tryz.func190, Tryz.ntmps190
  go_wp2_with fail
  go_loopw [0] (fun u0 wr => ∃ k : Nat, u0 = .int .i64 (k : Int) ∧ k ≤ h ∧ Below wo.heap.size wo wr ∧ Hid (∀ u, Low u → IsL wd u h → Cand wd u c k)) (fun u0 _ => (intOf u0).toNat)
  case atStart => exact ⟨h, rfl, Nat.le_refl _, Below.refl _ _, Lib.hid (fun u _ hl => cand_of hl)⟩
  case round =>
    obtain ⟨k, rfl, hk, hbw, hcand⟩ := hrel
    have hm1 := hm.below hbw
    have x0 := hm1.word.cell (i := 0) rfl
    have y0 := hm1.slice.cell (i := 0) rfl
    have hrow := rowI_get wd bk k (by omega)
    obtain ⟨r0, rf0⟩ := hm1.row.at hrow
    have hback : (∀ hh : k < wd.length, wd[k] ≠ c) → 1 ≤ k → bk k < k ∧ Hid (∀ u, Low u → IsL wd u h → Cand wd u c (bk k)) := fun he h1 =>
      ⟨(ht k h1 (by omega)).1, Lib.hid (fun u hu hl => cand_miss hu ht h1 (by omega) (by omega) (hcand.out u hu hl) he)⟩
    by_cases hkn : k = wd.length
    · obtain ⟨hb1, hb2⟩ := hback (fun hh => by omega) (by omega)
      have ekn : ((k : Int) == (wd.length : Int)) = true := by rw [beq_iff_eq]; omega
      generalize bk k = b at *
      replace hkn := Lib.hid hkn
      clear hback hcand
      go_wp2_with fail
      go_roundw
      case rel => exact ⟨b, rfl, by omega, hbw, hb2⟩
      case measure => simp [intOf]; omega
    · have ekn : ((k : Int) == (wd.length : Int)) = false := by rw [beq_eq_false_iff_ne]; omega
      have hlt : k < wd.length := by omega
      have hC := Lib.hid (fun w => hQ.out k hlt w)
      have hhit : (c == wd[k]) = true → Hid (∀ u, Low u → IsL wd u h → IsL wd (u ++ [c]) (k + 1)) := fun he => Lib.hid (fun u hu hl => cand_hit (hcand.out u hu hl) hlt (beq_iff_eq.1 he).symm)
      have hzero : (c == wd[k]) = false → k = 0 → Hid (∀ u, Low u → IsL wd u h → IsL wd (u ++ [c]) 0) := fun he h0 => by
        subst h0
        exact Lib.hid (fun u hu hl => cand_zero (hcand.out u hu hl) hlt (fun e => by rw [e, beq_self_eq_true] at he; cases he))
      have hmiss : (c == wd[k]) = false → 1 ≤ k → bk k < k ∧ Hid (∀ u, Low u → IsL wd u h → Cand wd u c (bk k)) := fun he h1 => hback (fun _ e => by rw [← e, beq_self_eq_true] at he; cases he) h1
      generalize (c == wd[k]) = hit at *
      clear hback hcand
      replace hkn := Lib.hid hkn
      cases hit
      · by_cases hk0 : k = 0
        · have hz := hzero rfl hk0
          subst hk0
          clear hzero hhit hmiss
          go_wp2_with fail
          refine (hC.out _).mono ?_
          rintro e1 w2 ⟨rfl, hb2⟩
          go_wp2_with fail
          exact hgoal.out 0 _ (by omega) (by omega) hz.out (bt hbw hb2)
        · obtain ⟨hb1, hb2⟩ := hmiss rfl (by omega)
          generalize bk k = b at *
          clear hzero hhit hmiss
          replace hb2 := Lib.hid hb2
          have hgt : decide ((0 : Int) < (k : Int)) = true := decide_eq_true (by omega)
          go_wp2_with fail
          refine (hC.out _).mono ?_
          rintro e1 w2 ⟨rfl, hbq⟩
          have hm2 := hm1.below hbq
          have x0 := hm2.word.cell (i := 0) rfl
          have y0 := hm2.slice.cell (i := 0) rfl
          obtain ⟨r0, rf0⟩ := hm2.row.at hrow
          go_wp2_with fail
          go_roundw
          case rel => exact ⟨b, rfl, by omega, bt hbw hbq, hb2.out⟩
          case measure => simp [intOf]; omega
      · have hz := hhit rfl
        clear hzero hhit hmiss
        by_cases hk0 : k = 0
        · subst hk0
          go_wp2_with fail
          refine (hC.out _).mono ?_
          rintro e1 w2 ⟨rfl, hb2⟩
          go_wp2_with fail
          exact hgoal.out 1 _ (by omega) (by omega) hz.out (bt hbw hb2)
        · have hgt : decide ((0 : Int) < (k : Int)) = true := decide_eq_true (by omega)
          go_wp2_with fail
          refine (hC.out _).mono ?_
          rintro e1 w2 ⟨rfl, hbq⟩
          have hm2 := hm1.below hbq
          have x0 := hm2.word.cell (i := 0) rfl
          go_wp2_with fail
          refine (hC.out _).mono ?_
          rintro e1 w3 ⟨rfl, hbq3⟩
          go_wp2_with fail
          exact hgoal.out (k + 1) _ (by omega) (by omega) hz.out (bt (bt hbw hbq) hbq3)
end Go.Proofs.YteefodibpjgicaaGreat

namespace Go.Proofs.YteefodibpjgicaaGreat
open Go.RowKit Kmp
def FollowPost (wd : List UInt8) (w : World) (e : Ending) (w' : World) : Prop := ∃ (bk : Nat → Nat) (g1 g2 ga : Nat), e = .returned (.func (.func 190) #[] #[.pointer (some ⟨g1, 0, none⟩), .pointer (some ⟨g2, 0, none⟩)]) ∧ FMem wd bk g1 g2 ga w' ∧ Tab wd bk wd.length ∧ Below w.heap.size w w'
theorem cellB {B : Nat} {w w' : World} (hb : Below B w w') {b o : Nat} {v : Value} (h : w.cell? ⟨b, o, none⟩ = some v) (hlt : b < B) : w'.cell? ⟨b, o, none⟩ = some v := (hb.cell (p := ⟨b, o, none⟩) hlt).trans h
def KmpI (wd : List UInt8) (ga i b : Nat) (c : UInt8) (wr : World) (f : Nat → Bool) (t : Nat → Value) (W : World) : Prop :=
  (f 13 = false → Below wr.heap.size wr W) ∧ (f 11 = true → ∃ r : Nat, t 11 = .int .i64 (r : Int) ∧ Strides wd b c r) ∧
  (f 13 = true → (∀ j, j < 13 → f j = true) ∧ ∃ (r : Nat) (W0 : World), Strides wd b c r ∧ Below wr.heap.size wr W0 ∧ W = W0.setCell ⟨ga, i + 1, none⟩ (.int .i64 (r : Int)))
section
variable {wd : List UInt8} {ga i b : Nat} {c : UInt8} {wr W : World} {f : Nat → Bool} {t : Nat → Value}
theorem KmpI.start (wd : List UInt8) (ga i b : Nat) (c : UInt8) (wr : World) (t : Nat → Value) : KmpI wd ga i b c wr (fun j => decide (14 ≤ j)) t wr.drew :=
  ⟨fun _ => (Below.refl _ wr).drew, fun h => by simp at h, fun h => by simp at h⟩
theorem KmpI.notlast (h : KmpI wd ga i b c wr f t W) {j : Nat} (hj : j < 14) (hf : f j = false) : f 13 = false := by
  cases h13 : f 13
  · rfl
  · rcases Nat.lt_or_ge j 13 with hl | hl
    · have := (h.2.2 h13).1 j hl
      rw [hf] at this
      cases this
    · obtain rfl : j = 13 := by omega
      rw [h13] at hf
      cases hf
theorem KmpI.same (h : KmpI wd ga i b c wr f t W) (j : Nat) (v : Value) (h1 : j ≠ 11) (h2 : j ≠ 13) : KmpI wd ga i b c wr (updF f j) (updT t j v) W := by
  refine ⟨fun e => h.1 (by rwa [updF_ne f (Ne.symm h2)] at e), fun e => ?_, fun e => ?_⟩
  · rw [updF_ne f (Ne.symm h1)] at e
    obtain ⟨r, e1, e2⟩ := h.2.1 e
    exact ⟨r, by simpa [updT, Ne.symm h1] using e1, e2⟩
  · rw [updF_ne f (Ne.symm h2)] at e
    obtain ⟨e1, e2⟩ := h.2.2 e
    exact ⟨fun k hk => by unfold updF; split; rfl; exact e1 k hk, e2⟩
theorem KmpI.call (h : KmpI wd ga i b c wr f t W) (h13 : f 13 = false) {r : Nat} {W' : World} (hr : Strides wd b c r) (hb : Below W.heap.size W W') : KmpI wd ga i b c wr (updF f 11) (updT t 11 (.int .i64 (r : Int))) W' := by
  refine ⟨fun _ => bt (h.1 h13) hb, fun _ => ⟨r, by simp [updT], hr⟩, fun e => ?_⟩
  rw [updF_ne f (by omega), h13] at e
  cases e
theorem KmpI.put (h : KmpI wd ga i b c wr f t W) (h13 : f 13 = false) {r : Nat} (hr : Strides wd b c r) (hall : ∀ j, j < 13 → f j = true) (v : Value) : KmpI wd ga i b c wr (updF f 13) (updT t 13 v) (W.setCell ⟨ga, i + 1, none⟩ (.int .i64 (r : Int))) := by
  refine ⟨fun e => by simp at e, fun e => ?_, fun _ => ⟨fun k hk => by unfold updF; split; rfl; exact hall k hk, r, W, hr, h.1 h13, rfl⟩⟩
  rw [updF_ne f (by omega)] at e
  obtain ⟨r', e1, e2⟩ := h.2.1 e
  exact ⟨r', by simpa [updT] using e1, e2⟩
end
theorem infoInt : (Tryz.prog.info? 3).map (fun i => (i.zero, i.size, i.bytes)) = some (some (.int .i64 0), 1, 8) := by kernel_rfl
theorem made_row (wd : List UInt8) (bk : Nat → Nat) (h : ∀ j, bk j = 0) : (madeCells (Value.int .i64 0).cells ((wd.length + 1) * 1)).toList = rowI wd bk := by
  unfold madeCells rowI
  rw [Array.toList_map, Array.toList_range, Nat.mul_one]
  refine List.map_congr_left (fun j _ => ?_)
  rw [h j]
  show #[Value.int .i64 0][j % 1]! = _
  rw [Nat.mod_one]
  rfl
theorem mutRow_own {w : World} {base g n cap : Nat} {e : TypeId} {xs : List Value} (h : w.ownsRow base e 1 (.slice (some ⟨g, 0, none⟩) n cap) n xs) (hx : xs.length = n) : MutRow w g xs := fun j hj => by
  refine ⟨?_, h.frozenAt j⟩
  rw [h.cellAt j (by omega)]
  exact List.getElem?_eq_getElem hj
theorem rowI_set (wd : List UInt8) (bk : Nat → Nat) (i r : Nat) : (rowI wd bk).set i (.int .i64 (r : Int)) = rowI wd (fun j => if j = i then r else bk j) := by
  apply List.ext_getElem?
  intro j
  unfold rowI
  rw [List.getElem?_set, List.getElem?_map, List.getElem?_map, List.length_map, List.length_range]
  by_cases hj : j < wd.length + 1
  · rw [List.getElem?_range hj]
    by_cases e : i = j
    · subst e
      simp [hj]
    · simp [e, Ne.symm e]
  · rw [List.getElem?_eq_none (by simp; omega)]
    simp
    omega
set_option maxHeartbeats 4000000 in
set_option maxRecDepth 100000 in
theorem tokFollow (wd : List UInt8) (w : World) (hw1 : 0 < wd.length) (hw2 : wd.length ≤ 1073741826) : Calls Tryz.prog 179 #[.string (M5.bs wd)] w (FollowPost wd w) := by
  obtain ⟨wo, rfl⟩ : ∃ wo : World, wo = w := ⟨_, rfl⟩
  have hbz : (M5.bs wd).size = wd.length := bs_size wd
  have hE : ∀ (args : Array Value) (w : World), (callFunc 190 args).run Tryz.prog w = .ok (.enter 190 args) w := enters_of Tryz.func190 (by kernel_rfl) rfl
  go_enter Tryz.func179, Tryz.ntmps179
  obtain ⟨i0, hi, hz0, hz1, hz2⟩ := info_parts infoInt
  have bw0 := Box.new wo 9 [.string (M5.bs wd)]
  have hb0 := Lib.hid ((Below.refl _ wo).alloc (Nat.le_refl _) (.cells #[.string (M5.bs wd)] 9))
  go_wp2_with (at_make; refine wpList_make_full _ rfl _ _ 82 rfl (wo.heap.size + 1) 3 i0 (.int .i64 0) 1 Tryz.underlying82 hi hz0 hz1 .i64 .i64 _ _ (wd.length + 1) rfl rfl (by omega) (by omega) (by rw [hz2]; omega) (by unfold maxLen; omega) (by simp) ?_; intro w1 hown1 hgrow1)
  have hz : (wo.alloc (.cells #[.string (M5.bs wd)] 9)).heap.size = wo.heap.size + 1 := by simp
  rw [hz] at hown1
  have hr1 := mutRow_own hown1 (by rw [made_row wd (fun _ => 0) (fun _ => rfl), rowI_len])
  rw [made_row wd (fun _ => 0) (fun _ => rfl)] at hr1
  have bw1 := bw0.keep (hgrow1.block _ bw0.lt (by simp))
  have hb1 := hb0.out.grown hgrow1 hb0.out.size (fun k hk => by cases hk)
  have hgs : wo.heap.size + 1 < w1.heap.size := mutRow_lt hr1 (by rw [rowI_len]; omega)
  obtain ⟨g1, hg1⟩ : ∃ g, g = wo.heap.size := ⟨_, rfl⟩
  obtain ⟨ga, hga⟩ : ∃ g, g = wo.heap.size + 1 := ⟨_, rfl⟩
  obtain ⟨g2, hg2⟩ : ∃ g, g = w1.heap.size := ⟨_, rfl⟩
  have hm0 : FMem wd (fun _ => 0) g1 g2 ga (w1.alloc (.cells #[.slice (some ⟨ga, 0, none⟩) (wd.length + 1) (wd.length + 1)] 82)) := by
    rw [hg1, hg2, hga]
    exact ⟨bw1.alloc _, Box.new w1 82 [.slice (some ⟨wo.heap.size + 1, 0, none⟩) (wd.length + 1) (wd.length + 1)], fun j hj => by
      obtain ⟨h1, h2⟩ := hr1 j hj
      have hb := (Below.refl w1.heap.size w1).alloc (Nat.le_refl _) (.cells #[.slice (some ⟨wo.heap.size + 1, 0, none⟩) (wd.length + 1) (wd.length + 1)] 82)
      exact ⟨by rw [hb.cell (p := ⟨wo.heap.size + 1, j, none⟩) hgs]; exact h1, by rw [hb.frozen (p := ⟨wo.heap.size + 1, j, none⟩) hgs]; exact h2⟩⟩
  have hb2 := hb1.alloc hb1.size (.cells #[.slice (some ⟨ga, 0, none⟩) (wd.length + 1) (wd.length + 1)] 82)
  have hne1 : g1 ≠ ga := by omega
  have hne2 : g2 ≠ ga := by omega
  have hga2 : wo.heap.size ≤ ga := by omega
  rw [← hga, ← hg1, ← hg2]
  clear hg1 hga hg2 hgs hr1 bw1 bw0 hb0 hb1 hown1 hgrow1 hz hi hz0 hz1 hz2
  go_loopw [5] (fun u5 wr => ∃ (i : Nat) (bk : Nat → Nat), u5 = .int .i64 (i : Int) ∧ 1 ≤ i ∧ i ≤ wd.length ∧ FMem wd bk g1 g2 ga wr ∧ Hid (Tab wd bk i) ∧ Below wo.heap.size wo wr) (fun u5 _ => wd.length - (intOf u5).toNat)
  case atStart => exact ⟨1, fun _ => 0, rfl, Nat.le_refl _, hw1, hm0, Lib.hid (tab_one wd _ rfl), hb2⟩
  case round =>
    obtain ⟨i, bk, rfl, hi1, hin, hm, ht, hbw⟩ := hrel
    have x0 := hm.word.cell (i := 0) rfl
    have y0 := hm.slice.cell (i := 0) rfl
    by_cases hlt : i < wd.length
    · have hlti : decide ((i : Int) < (wd.length : Int)) = true := decide_eq_true (by omega)
      have hrow := rowI_get wd bk i (by omega)
      obtain ⟨r0, rf0⟩ := hm.row.at hrow
      have hx : ((M5.bs wd).extract i wd.length).size = wd.length - i := by rw [ByteArray.size_extract, hbz]; omega
      have hc0 : ∀ h : 0 < ((M5.bs wd).extract i wd.length).size, ((M5.bs wd).extract i wd.length)[0] = wd[i] := fun h => by
        have h1 := drop_cons ((M5.bs wd).extract i wd.length) 0 h
        rw [List.drop_zero, Lib.extract_data, M5.bs_data, List.take_of_length_le (by rw [List.length_drop]; exact Nat.le_refl _), List.drop_eq_getElem_cons hlt] at h1
        exact (List.cons.inj h1).1.symm
      have hbki : bk i < i := (ht.out i hi1 (Nat.le_refl _)).1
      have hS : Hid (∀ w', FMem wd bk g1 g2 ga w' → Calls Tryz.prog 190 #[.int .i64 (bk i : Int), .string ((M5.bs wd).extract i wd.length), .pointer (some ⟨g1, 0, none⟩), .pointer (some ⟨g2, 0, none⟩)] w' (StepPost wd (bk i) wd[i] w')) := Lib.hid (fun w' h => by
        have h0 : 0 < ((M5.bs wd).extract i wd.length).size := by omega
        have := tokStep wd bk (bk i) i ((M5.bs wd).extract i wd.length) w' g1 g2 ga h hw1 (by omega) (by omega) (by omega) ht.out h0 (by omega)
        rw [hc0 h0] at this
        exact this)
      generalize hbk : bk i = b at *
      replace hbk := Lib.hid hbk
      clear hc0
      have hwrap : IntKind.i64.wrap ((i : Int) + 1) = (i : Int) + 1 := IntWalk.i64_in _ ⟨by omega, by omega⟩
      have hgl : ga < wr.heap.size := mutRow_lt hm.row (by rw [rowI_len]; omega)
      have c1 : (0 : Int) ≤ (i : Int) := by omega
      have c2 : (i : Int) ≤ (wd.length : Int) := by omega
      have c3 : (i : Int) < (wd.length : Int) + 1 := by omega
      have c4 : (0 : Int) ≤ (i : Int) + 1 := by omega
      have c5 : (i : Int) + 1 < (wd.length : Int) + 1 := by omega
      go_wp2_with fail
      refine wp_region_known (n := 14) ([some (.slice (some ⟨ga, 0, none⟩) (wd.length + 1) (wd.length + 1)), some (Value.int IntKind.i64 (i : Int)), some (.int .i64 ((i : Int) + 1)), some (Value.func (Fn.func 190) #[] #[Value.pointer (some ⟨g1, 0, none⟩), Value.pointer (some ⟨g2, 0, none⟩)]), some (.slice (some ⟨ga, 0, none⟩) (wd.length + 1) (wd.length + 1)), some (Value.int IntKind.i64 (i : Int)), some (.pointer (some ⟨ga, i, none⟩)), some (.int .i64 (b : Int)), some (.string (M5.bs wd)), some (Value.int IntKind.i64 (i : Int)), some (.string ((M5.bs wd).extract i wd.length)), none, some (.pointer (some ⟨ga, i + 1, none⟩)), none] : List (Option Value)) (fun t => ⟨#[Value.string (M5.bs wd), Value.pointer (some ⟨g1, 0, none⟩), Value.nilFunc, Value.pointer (some ⟨g2, 0, none⟩), Value.func (Fn.func 190) #[] #[Value.pointer (some ⟨g1, 0, none⟩), Value.pointer (some ⟨g2, 0, none⟩)], Value.int IntKind.i64 (i : Int), Value.string (M5.bs wd), Value.int IntKind.i64 (wd.length : Int), Value.int IntKind.i64 ((wd.length : Int) + 1), Value.slice (some ⟨ga, 0, none⟩) (wd.length + 1) (wd.length + 1), Value.func (Fn.func 190) #[] #[Value.pointer (some ⟨g1, 0, none⟩), Value.pointer (some ⟨g2, 0, none⟩)], Value.int IntKind.i64 (i : Int), Value.string (M5.bs wd), Value.int IntKind.i64 (wd.length : Int), Value.bool true, u15, u16, t 0, t 1, t 2, t 3, t 4, t 5, t 6, t 7, t 8, t 9, t 10, t 11, t 12, undef], []⟩) (fun f t W => KmpI wd ga i b wd[i] wr f t W) (fun j => match j with | 0 => u17 | 1 => u18 | 2 => u19 | 3 => u20 | 4 => u21 | 5 => u22 | 6 => u23 | 7 => u24 | 8 => u25 | 9 => u26 | 10 => u27 | 11 => u28 | 12 => u29 | _ => undef) (by kernel_rfl) (by rfl) (by rfl) (by kernel_rfl) rfl ?i0 ?step ?fin
      case i0 =>
        exact KmpI.start _ _ _ _ _ _ _
      case step =>
        intro j0 hj0 f t W hfi hwt hk2 hI
        have h13 := hI.notlast hj0 hfi
        have hlow := hI.1 h13
        have s0 := cellB hlow x0 hm.word.lt
        have s1 := cellB hlow y0 hm.slice.lt
        have s2 := cellB hlow r0 hgl
        have s3 := Lib.hid (hm.below hlow)
        clear hlow h13
        obtain rfl | rfl | rfl | rfl | rfl | rfl | rfl | rfl | rfl | rfl | rfl | rfl | rfl | rfl : j0 = 0 ∨ j0 = 1 ∨ j0 = 2 ∨ j0 = 3 ∨ j0 = 4 ∨ j0 = 5 ∨ j0 = 6 ∨ j0 = 7 ∨ j0 = 8 ∨ j0 = 9 ∨ j0 = 10 ∨ j0 = 11 ∨ j0 = 12 ∨ j0 = 13 := by omega
        · -- operation 0
          replace hI := Lib.hid hI
          replace hI := Lib.hid hI
          replace hk2 := Lib.hid hk2
          clear hwt
          refine wpOp_step rfl (fun K hK => ?_)
          go_simp
          exact hK _ _ ⟨_, by simp [updT], hk2.out.at_ rfl, hI.out.same _ _ (by decide) (by decide)⟩
        · -- operation 1
          replace hI := Lib.hid hI
          replace hI := Lib.hid hI
          replace hk2 := Lib.hid hk2
          clear hwt
          refine wpOp_step rfl (fun K hK => ?_)
          go_simp
          exact hK _ _ ⟨_, by simp [updT], hk2.out.at_ rfl, hI.out.same _ _ (by decide) (by decide)⟩
        · -- operation 2
          have e1 : t 1 = Value.int IntKind.i64 (i : Int) := hk2 1 _ (hwt 1 (by kernel_rfl)) rfl
          replace hI := Lib.hid hI
          replace hI := Lib.hid hI
          replace hk2 := Lib.hid hk2
          clear hwt
          refine wpOp_step rfl (fun K hK => ?_)
          go_simp
          exact hK _ _ ⟨_, by simp [updT, e1], hk2.out.at_ rfl, hI.out.same _ _ (by decide) (by decide)⟩
        · -- operation 3
          replace hI := Lib.hid hI
          replace hI := Lib.hid hI
          replace hk2 := Lib.hid hk2
          clear hwt
          refine wpOp_step rfl (fun K hK => ?_)
          go_simp
          exact hK _ _ ⟨_, by simp [updT], hk2.out.at_ rfl, hI.out.same _ _ (by decide) (by decide)⟩
        · -- operation 4
          replace hI := Lib.hid hI
          replace hI := Lib.hid hI
          replace hk2 := Lib.hid hk2
          clear hwt
          refine wpOp_step rfl (fun K hK => ?_)
          go_simp
          exact hK _ _ ⟨_, by simp [updT], hk2.out.at_ rfl, hI.out.same _ _ (by decide) (by decide)⟩
        · -- operation 5
          replace hI := Lib.hid hI
          replace hI := Lib.hid hI
          replace hk2 := Lib.hid hk2
          clear hwt
          refine wpOp_step rfl (fun K hK => ?_)
          go_simp
          exact hK _ _ ⟨_, by simp [updT], hk2.out.at_ rfl, hI.out.same _ _ (by decide) (by decide)⟩
        · -- operation 6
          have e4 : t 4 = .slice (some ⟨ga, 0, none⟩) (wd.length + 1) (wd.length + 1) := hk2 4 _ (hwt 4 (by kernel_rfl)) rfl
          have e5 : t 5 = Value.int IntKind.i64 (i : Int) := hk2 5 _ (hwt 5 (by kernel_rfl)) rfl
          replace hI := Lib.hid hI
          replace hI := Lib.hid hI
          replace hk2 := Lib.hid hk2
          clear hwt
          refine wpOp_step rfl (fun K hK => ?_)
          go_simp
          exact hK _ _ ⟨_, by simp [updT, e4, e5], hk2.out.at_ rfl, hI.out.same _ _ (by decide) (by decide)⟩
        · -- operation 7
          have e6 : t 6 = .pointer (some ⟨ga, i, none⟩) := hk2 6 _ (hwt 6 (by kernel_rfl)) rfl
          replace hI := Lib.hid hI
          replace hI := Lib.hid hI
          replace hk2 := Lib.hid hk2
          clear hwt
          refine wpOp_step rfl (fun K hK => ?_)
          go_simp
          exact hK _ _ ⟨_, by simp [updT, e6], hk2.out.at_ rfl, hI.out.same _ _ (by decide) (by decide)⟩
        · -- operation 8
          replace hI := Lib.hid hI
          replace hI := Lib.hid hI
          replace hk2 := Lib.hid hk2
          clear hwt
          refine wpOp_step rfl (fun K hK => ?_)
          go_simp
          exact hK _ _ ⟨_, by simp [updT], hk2.out.at_ rfl, hI.out.same _ _ (by decide) (by decide)⟩
        · -- operation 9
          replace hI := Lib.hid hI
          replace hI := Lib.hid hI
          replace hk2 := Lib.hid hk2
          clear hwt
          refine wpOp_step rfl (fun K hK => ?_)
          go_simp
          exact hK _ _ ⟨_, by simp [updT], hk2.out.at_ rfl, hI.out.same _ _ (by decide) (by decide)⟩
        · -- operation 10
          have e8 : t 8 = .string (M5.bs wd) := hk2 8 _ (hwt 8 (by kernel_rfl)) rfl
          have e9 : t 9 = Value.int IntKind.i64 (i : Int) := hk2 9 _ (hwt 9 (by kernel_rfl)) rfl
          replace hI := Lib.hid hI
          replace hI := Lib.hid hI
          replace hk2 := Lib.hid hk2
          clear hwt
          refine wpOp_step rfl (fun K hK => ?_)
          go_simp
          exact hK _ _ ⟨_, by simp [updT, e8, e9], hk2.out.at_ rfl, hI.out.same _ _ (by decide) (by decide)⟩
        · -- operation 11
          have e3 : t 3 = Value.func (Fn.func 190) #[] #[Value.pointer (some ⟨g1, 0, none⟩), Value.pointer (some ⟨g2, 0, none⟩)] := hk2 3 _ (hwt 3 (by kernel_rfl)) rfl
          have e7 : t 7 = .int .i64 (b : Int) := hk2 7 _ (hwt 7 (by kernel_rfl)) rfl
          have e10 : t 10 = .string ((M5.bs wd).extract i wd.length) := hk2 10 _ (hwt 10 (by kernel_rfl)) rfl
          have hC := Lib.hid (hS.out W s3.out)
          have h13 := hI.notlast hj0 hfi
          replace hk2 := Lib.hid hk2
          replace hI := Lib.hid hI
          clear hwt
          refine wpOp_step rfl (fun K hK => ?_)
          go_simp
          refine hC.out.mono ?_
          rintro e w5 ⟨r, hr, rfl, hb5⟩
          exact hK _ _ ⟨_, by simp [updT, e3, e7, e10], hk2.out.free rfl, hI.out.call h13 hr hb5⟩
        · -- operation 12
          have e0 : t 0 = .slice (some ⟨ga, 0, none⟩) (wd.length + 1) (wd.length + 1) := hk2 0 _ (hwt 0 (by kernel_rfl)) rfl
          have e2 : t 2 = .int .i64 ((i : Int) + 1) := hk2 2 _ (hwt 2 (by kernel_rfl)) rfl
          replace hI := Lib.hid hI
          replace hI := Lib.hid hI
          replace hk2 := Lib.hid hk2
          clear hwt
          refine wpOp_step rfl (fun K hK => ?_)
          go_simp
          exact hK _ _ ⟨_, by simp [updT, e0, e2], hk2.out.at_ rfl, hI.out.same _ _ (by decide) (by decide)⟩
        · -- operation 13
          have e12 : t 12 = .pointer (some ⟨ga, i + 1, none⟩) := hk2 12 _ (hwt 12 (by kernel_rfl)) rfl
          obtain ⟨r, e11, hr⟩ := hI.2.1 (hwt 11 (by kernel_rfl))
          obtain ⟨q0, qf0⟩ := s3.out.row.at (rowI_get wd bk (i + 1) (by omega))
          have hput := hI.put hfi hr (fun j hj => by
            rcases (by omega : j = 0 ∨ j = 1 ∨ j = 2 ∨ j = 3 ∨ j = 4 ∨ j = 5 ∨ j = 6 ∨ j = 7 ∨ j = 8 ∨ j = 9 ∨ j = 10 ∨ j = 11 ∨ j = 12) with rfl | rfl | rfl | rfl | rfl | rfl | rfl | rfl | rfl | rfl | rfl | rfl | rfl <;> exact hwt _ (by kernel_rfl)) undef
          replace hput := Lib.hid hput
          replace hk2 := Lib.hid hk2
          replace hI := Lib.hid hI
          clear hwt
          refine wpOp_step rfl (fun K hK => ?_)
          go_simp
          exact hK _ _ ⟨undef, by simp [updT, e11, e12], hk2.out.free rfl, hput.out⟩
      case fin =>
        intro f t W hall hk2 hI
        obtain ⟨_, r, W0, hr, hb0, rfl⟩ := hI.2.2 (hall 13 (by omega))
        clear hk2 hall hI
        have hm2 := hm.below hb0
        have hrow2 := hm2.row.set (k := i + 1) (by rw [rowI_len]; omega) (.int .i64 (r : Int))
        rw [rowI_set] at hrow2
        have hbF : Below wo.heap.size wo (W0.setCell ⟨ga, i + 1, none⟩ (.int .i64 (r : Int))) := (bt hbw hb0).setCell (p := ⟨ga, i + 1, none⟩) hga2 _
        have hmF : FMem wd (fun j => if j = i + 1 then r else bk j) g1 g2 ga (W0.setCell ⟨ga, i + 1, none⟩ (.int .i64 (r : Int))) := ⟨hm2.word.far hne1 _, hm2.slice.far hne2 _, hrow2⟩
        have htF := Lib.hid (tab_next hi1 hlt ht.out r (by rw [hbk.out]; exact hr))
        replace hmF := Lib.hid hmF
        go_wp2_with fail
        refine ⟨⟨_, _, _, _, _, _, _, _, _, _, _, _, _, _, _, _, _, _, _, _, ?rel, rfl⟩, ?measure⟩
        case rel => exact ⟨i + 1, fun j => if j = i + 1 then r else bk j, by go_num, by omega, by omega, hmF.out, htF, hbF⟩
        case measure => exact rf_meas hlt
    · obtain rfl : i = wd.length := by omega
      go_wp2_with fail
      go_ret
      exact ⟨bk, g1, g2, ga, rfl, hm, ht.out, hbw⟩
end Go.Proofs.YteefodibpjgicaaGreat

namespace Go.Proofs.YteefodibpjgicaaGreat
open Go.RowKit Kmp
theorem flat_edge : Flat edgeB := flat_of (by decide +kernel)
theorem flat_ask (q : UInt8 → Bool) (hq : Flat q) (c : UInt8) : q c = askR q c.toNat := by
  by_cases h : c.toNat < 128
  · rw [ask_low q c h]
  · unfold askR
    rw [if_neg h, hq c (by omega)]
set_option maxHeartbeats 4000000 in
set_option maxRecDepth 100000 in
theorem tokEnds (s nm : ByteArray) (w : World) (hs : s.size ≤ 1073741824) (hn : nm.size ≤ 1073741824) :
    Calls Tryz.prog 168 #[.string s, .string nm] w (EndsPost (M5.endsL ([60, 47] ++ nm.data.toList) s.data.toList) w) := by
  obtain ⟨wd, hwd⟩ : ∃ wd : List UInt8, wd = [60, 47] ++ nm.data.toList := ⟨_, rfl⟩
  have hwl : wd.length = 2 + nm.size := by rw [hwd, List.length_append]; show 2 + nm.size = _; rfl
  have hW : (⟨#[60, 47]⟩ : ByteArray) ++ nm = M5.bs wd := by
    apply ByteArray.ext
    apply Array.ext'
    rw [M5.bs_data, hwd, ByteArray.data_append, Array.toList_append]
  rw [← hwd]
  have hsl : s.data.toList.length = s.size := rfl
  obtain ⟨R, hR⟩ : ∃ R, Hid (R = M5.endsL wd s.data.toList) := ⟨_, rfl⟩
  rw [← hR.out]
  have hF := Lib.hid (fun w => tokFollow wd w (by omega) (by omega))
  have hadd : ¬ 9223372036854775807 < 2 + nm.size := by omega
  have hE : ∀ (args : Array Value) (w : World), (callFunc 190 args).run Tryz.prog w = .ok (.enter 190 args) w := enters_of Tryz.func190 (by kernel_rfl) rfl
  have hbz : (M5.bs wd).size = wd.length := bs_size wd
  have hwb1 : 0 < wd.length := by omega
  have hwb2 : wd.length ≤ 1073741826 := by omega
  replace hwd := Lib.hid hwd
  obtain ⟨wo, rfl⟩ : ∃ wo : World, wo = w := ⟨_, rfl⟩
  go_enter Tryz.func168, Tryz.ntmps168
  go_wp2_with fail
  replace hwl := Lib.hid hwl
  refine (hF.out _).mono ?_
  rintro e1 w1 ⟨bk, g1, g2, ga, rfl, hm, ht, hb1⟩
  replace ht := Lib.hid ht
  go_wp2_with fail
  go_loopw [7, 15] (fun u7 u15 wr => ∃ (i h : Nat), u7 = .int .i64 (h : Int) ∧ u15 = .int .i64 (i : Int) ∧ i ≤ s.size ∧ FMem wd bk g1 g2 ga wr ∧ Hid (IsL wd (M1.fold (s.data.toList.take i)) h) ∧ Hid (∀ k, k + wd.length < i → ¬ Hit wd s.data.toList k) ∧ Below wo.heap.size wo wr) (fun _ u15 _ => s.size - (intOf u15).toNat)
  case atStart => exact ⟨0, 0, rfl, rfl, Nat.zero_le _, hm, Lib.hid (isL_nil wd), Lib.hid (fun k hk => by omega), hb1⟩
  case round =>
    obtain ⟨i, h, rfl, rfl, hi, hm, hL, hno, hbw⟩ := hrel
    by_cases hlt : i < s.size
    · have hh : h ≤ wd.length := hL.out.1
      have hx : (s.extract i s.size).size = s.size - i := by rw [ByteArray.size_extract]; omega
      have hc0 : ∀ h : 0 < (s.extract i s.size).size, (s.extract i s.size)[0] = s[i] := fun h => by
        have h1 := drop_cons (s.extract i s.size) 0 h
        rw [List.drop_zero, Lib.extract_data, List.take_of_length_le (by rw [List.length_drop]; exact Nat.le_refl _), drop_cons s i hlt] at h1
        exact (List.cons.inj h1).1.symm
      have hS : Hid (∀ w', FMem wd bk g1 g2 ga w' → Calls Tryz.prog 190 #[.int .i64 (h : Int), .string (s.extract i s.size), .pointer (some ⟨g1, 0, none⟩), .pointer (some ⟨g2, 0, none⟩)] w' (StepPost wd h s[i] w')) := Lib.hid (fun w' hm' => by
        have h0 : 0 < (s.extract i s.size).size := by omega
        have := tokStep wd bk h wd.length (s.extract i s.size) w' g1 g2 ga hm' (by omega) (by omega) hh hh ht.out h0 (by omega)
        rw [hc0 h0] at this
        exact this)
      have hLe : Hid (∀ w, Calls Tryz.prog 180 #[.int .i32 (wrap32 (s[i].toNat : Int))] w (BoolPost (edgeB s[i]) w)) := Lib.hid (fun w => by
        rw [wrap32_byte]
        have := tokLeaves s[i].toNat w
        rwa [← flat_ask edgeB flat_edge] at this)
      have hgo : (h = wd.length ∧ edgeB s[i] = true → False) → ∀ r, Strides wd h s[i] r → Hid (IsL wd (M1.fold (s.data.toList.take (i + 1))) r) ∧ Hid (∀ k, k + wd.length < i + 1 → ¬ Hit wd s.data.toList k) := fun hne r hr => by
        refine ⟨Lib.hid ?_, Lib.hid (fun k hk hh' => ?_)⟩
        · have e := fold_snoc s.data.toList i hlt
          have := hr.2.2 _ (low_fold _) hL.out
          rw [e]
          exact this
        · rcases Nat.lt_or_ge (k + wd.length) i with hk2 | hk2
          · exact hno.out k hk2 hh'
          · have hki : k = i - wd.length := by omega
            rw [hki] at hh'
            exact hne ((hit_iff hlt hL.out (by omega)).1 hh')
      by_cases hhn : h = wd.length
      · have ekn : ((h : Int) == (wd.length : Int)) = true := by rw [beq_iff_eq]; omega
        cases hed : edgeB s[i]
        · rw [hed] at hLe hgo
          have hgo2 := Lib.hid (hgo (fun e => by cases e.2))
          replace hhn := Lib.hid hhn
          clear hgo hc0
          go_wp2_with fail
          refine (hLe.out _).mono ?_
          rintro e1 w2 ⟨rfl, rfl⟩
          go_wp2_with fail
          refine (hS.out _ hm).mono ?_
          rintro e1 w2 ⟨r, hr, rfl, hb2⟩
          obtain ⟨hL2, hno2⟩ := hgo2.out r hr
          have hm2 := Lib.hid (hm.below hb2)
          have hbw2 := Lib.hid (bt hbw hb2)
          clear hm hbw hb2
          go_wp2_with fail
          go_roundw
          case rel => exact ⟨i + 1, r, rfl, by go_num, by omega, hm2.out, hL2, hno2, hbw2.out⟩
          case measure => exact rf_meas hlt
        · have hni : wd.length ≤ i := by
            have := hL.out.2.1.length_le
            rw [hhn, List.take_length] at this
            unfold M1.fold at this
            rw [List.length_map, List.length_take] at this
            omega
          have hres : R = some (i - wd.length) := by
            rw [hR.out]
            exact ends_some wd _ _ ((hit_iff hlt hL.out hni).2 ⟨hhn, hed⟩) (fun k hk => hno.out k (by omega))
          rw [hed] at hLe
          replace hres := Lib.hid hres
          clear hgo hc0
          go_wp2_with fail
          refine (hLe.out _).mono ?_
          rintro e1 w2 ⟨rfl, rfl⟩
          go_wp2_with fail
          go_ret
          exact ⟨by rw [hres.out]; show _ = Ending.returned (.int .i64 ((i - wd.length : Nat) : Int)); rw [Int.ofNat_sub hni]; rfl, hbw⟩
      · have ekn : ((h : Int) == (wd.length : Int)) = false := by rw [beq_eq_false_iff_ne]; omega
        have hgo2 := Lib.hid (hgo (fun e => hhn e.1))
        replace hhn := Lib.hid hhn
        clear hgo hc0
        go_wp2_with fail
        refine (hS.out _ hm).mono ?_
        rintro e1 w2 ⟨r, hr, rfl, hb2⟩
        obtain ⟨hL2, hno2⟩ := hgo2.out r hr
        have hm2 := Lib.hid (hm.below hb2)
        have hbw2 := Lib.hid (bt hbw hb2)
        clear hm hbw hb2
        go_wp2_with fail
        go_roundw
        case rel => exact ⟨i + 1, r, rfl, by go_num, by omega, hm2.out, hL2, hno2, hbw2.out⟩
        case measure => exact rf_meas hlt
    · have hres : R = none := by
        rw [hR.out]
        exact ends_none wd _ (fun k hk => hno.out k (by obtain ⟨_, h2, _⟩ := hk; omega) hk)
      replace hres := Lib.hid hres
      go_wp2_with fail
      go_ret
      exact ⟨by rw [hres.out]; rfl, hbw⟩
theorem ends_le (wd : List UInt8) : ∀ (l : List UInt8) (k : Nat), M5.endsL wd l = some k → k ≤ l.length := by
  intro l
  induction l with
  | nil => intro k h; cases h
  | cons c r ih =>
    intro k h
    by_cases h0 : Hit wd (c :: r) 0
    · rw [(ends_cons wd c r).1 h0] at h
      cases h
      exact Nat.zero_le _
    · rw [(ends_cons wd c r).2 h0] at h
      cases hr : M5.endsL wd r with
      | none => rw [hr] at h; cases h
      | some j =>
        rw [hr] at h
        have := ih j hr
        have h' : j + 1 = k := by simpa using h
        simp only [List.length_cons]
        omega
set_option maxHeartbeats 4000000 in
set_option maxRecDepth 100000 in
theorem tokContent (s nm : ByteArray) (w : World) (hs : s.size ≤ 1073741824) (hn : nm.size ≤ 1073741824) :
    Calls Tryz.prog 160 #[.string s, .string nm] w (TokPost (M5.contC (M5.endN nm.data.toList s.data.toList) s.data.toList) (M5.endN nm.data.toList s.data.toList) w) := by
  have hE := Lib.hid (fun w => tokEnds s nm w hs hn)
  obtain ⟨N, hN⟩ : ∃ N, Hid (N = M5.endN nm.data.toList s.data.toList) := ⟨_, rfl⟩
  rw [← hN.out]
  have hNv : Hid (N = match M5.endsL ([60, 47] ++ nm.data.toList) s.data.toList with | some k => k | none => s.size) := by
    show _ = _
    rw [hN.out]
    unfold M5.endN
    try (cases M5.endsL ([60, 47] ++ nm.data.toList) s.data.toList <;> rfl)
  have hNs : N ≤ s.size := by
    rw [hNv.out]
    cases he : M5.endsL ([60, 47] ++ nm.data.toList) s.data.toList with
    | none => exact Nat.le_refl _
    | some k => exact ends_le _ _ k he
  have hx : Hid (M5.bs (s.data.toList.take N) = s.extract 0 N) := by show _ = _; rw [bs_cut, List.drop_zero, Nat.sub_zero]
  have hC := Lib.hid (fun w => sClone (s.extract 0 N) w (by rw [ByteArray.size_extract]; omega))
  obtain ⟨wo, rfl⟩ : ∃ wo : World, wo = w := ⟨_, rfl⟩
  have bx0 := Box.new wo 87 [.int .i64 0, .string ⟨#[]⟩, .slice none 0 0, .string ⟨#[]⟩]
  have hb0 := Lib.hid ((Below.refl _ wo).alloc (Nat.le_refl _) (.cells #[.int .i64 0, .string ⟨#[]⟩, .slice none 0 0, .string ⟨#[]⟩] 87))
  cases he : M5.endsL ([60, 47] ++ nm.data.toList) s.data.toList with
  | none =>
    rw [he] at hNv
    have hNe : N = s.size := hNv.out
    have hEv : endV none = -1 := rfl
    by_cases hz : N = 0
    · have hT : Hid (M5.contC N s.data.toList = M5.zero) := by show _ = _; rw [M5.contC, if_pos hz]
      rw [hT.out]
      go_enter Tryz.func160, Tryz.ntmps160
      go_wp2_with fail
      refine (hE.out _).mono ?_
      rintro e1 w1 ⟨rfl, hb1⟩
      rw [he, hEv]
      have bx1 := bx0.below hb1 bx0.lt
      have hbW1 := Lib.hid (bt hb0.out hb1)
      have z0 := bx1.cell (i := 0) rfl
      have z1 := bx1.cell (i := 1) rfl
      have z2 := bx1.cell (i := 2) rfl
      have z3 := bx1.cell (i := 3) rfl
      have fz := bx1.free
      have bf := Lib.hid (bx1.four (.int .i64 0) (.string ⟨#[]⟩) (.slice none 0 0) (.string ⟨#[]⟩))
      clear hb1
      go_wp2_with fail
      have q0 := bf.out.cell (i := 0) rfl
      have q1 := bf.out.cell (i := 1) rfl
      have q2 := bf.out.cell (i := 2) rfl
      have q3 := bf.out.cell (i := 3) rfl
      exact bodyPost_ret (v := .tuple #[.agg #[.int .i64 0, .string ⟨#[]⟩, .slice none 0 0, .string ⟨#[]⟩], .int .i64 0]) (by simp [results, Tryz.results160, go_sem, q0, q1, q2, q3]) rfl (tokPost_nil (by omega) (four_below hbW1.out _ _ _ _ (Nat.le_refl _)))
    · have hxs : s.extract 0 N = s := by rw [hNe, ByteArray.extract_zero_size]
      rw [hxs] at hC
      have hT : Hid (M5.contC N s.data.toList = ⟨3, ⟨#[]⟩, [], s⟩) := by show _ = _; rw [M5.contC, if_neg hz, hx.out, hxs]
      rw [hT.out]
      go_enter Tryz.func160, Tryz.ntmps160
      go_wp2_with fail
      refine (hE.out _).mono ?_
      rintro e1 w1 ⟨rfl, hb1⟩
      rw [he, hEv]
      have bx1 := bx0.below hb1 bx0.lt
      have hbW1 := Lib.hid (bt hb0.out hb1)
      go_wp2_with fail
      refine (hC.out _).mono ?_
      rintro e1 w2 ⟨rfl, hb2⟩
      have bx2 := bx1.below hb2 bx1.lt
      have hbW2 := Lib.hid (bt hbW1.out hb2)
      have z0 := bx2.cell (i := 0) rfl
      have z1 := bx2.cell (i := 1) rfl
      have z2 := bx2.cell (i := 2) rfl
      have z3 := bx2.cell (i := 3) rfl
      have fz := bx2.free
      have bf := Lib.hid (bx2.four (.int .i64 3) (.string ⟨#[]⟩) (.slice none 0 0) (.string (s)))
      clear hb1 hb2
      go_wp2_with fail
      have q0 := bf.out.cell (i := 0) rfl
      have q1 := bf.out.cell (i := 1) rfl
      have q2 := bf.out.cell (i := 2) rfl
      have q3 := bf.out.cell (i := 3) rfl
      exact bodyPost_ret (v := .tuple #[.agg #[.int .i64 3, .string ⟨#[]⟩, .slice none 0 0, .string (s)], .int .i64 (s.size : Int)]) (by simp [results, Tryz.results160, go_sem, q0, q1, q2, q3]) rfl (tokPost_nil (by omega) (four_below hbW2.out _ _ _ _ (Nat.le_refl _)))
  | some k =>
    rw [he] at hNv
    obtain rfl : N = k := hNv.out
    have hEv : endV (some N) = (N : Int) := rfl
    by_cases hz : N = 0
    · have hT : Hid (M5.contC N s.data.toList = M5.zero) := by show _ = _; rw [M5.contC, if_pos hz]
      rw [hT.out]
      go_enter Tryz.func160, Tryz.ntmps160
      go_wp2_with fail
      refine (hE.out _).mono ?_
      rintro e1 w1 ⟨rfl, hb1⟩
      rw [he, hEv]
      have bx1 := bx0.below hb1 bx0.lt
      have hbW1 := Lib.hid (bt hb0.out hb1)
      have z0 := bx1.cell (i := 0) rfl
      have z1 := bx1.cell (i := 1) rfl
      have z2 := bx1.cell (i := 2) rfl
      have z3 := bx1.cell (i := 3) rfl
      have fz := bx1.free
      have bf := Lib.hid (bx1.four (.int .i64 0) (.string ⟨#[]⟩) (.slice none 0 0) (.string ⟨#[]⟩))
      clear hb1
      go_wp2_with fail
      have q0 := bf.out.cell (i := 0) rfl
      have q1 := bf.out.cell (i := 1) rfl
      have q2 := bf.out.cell (i := 2) rfl
      have q3 := bf.out.cell (i := 3) rfl
      exact bodyPost_ret (v := .tuple #[.agg #[.int .i64 0, .string ⟨#[]⟩, .slice none 0 0, .string ⟨#[]⟩], .int .i64 0]) (by simp [results, Tryz.results160, go_sem, q0, q1, q2, q3]) rfl (tokPost_nil (by omega) (four_below hbW1.out _ _ _ _ (Nat.le_refl _)))
    · have hT : Hid (M5.contC N s.data.toList = ⟨3, ⟨#[]⟩, [], s.extract 0 N⟩) := by show _ = _; rw [M5.contC, if_neg hz, hx.out]
      rw [hT.out]
      go_enter Tryz.func160, Tryz.ntmps160
      go_wp2_with fail
      refine (hE.out _).mono ?_
      rintro e1 w1 ⟨rfl, hb1⟩
      rw [he, hEv]
      have bx1 := bx0.below hb1 bx0.lt
      have hbW1 := Lib.hid (bt hb0.out hb1)
      go_wp2_with fail
      refine (hC.out _).mono ?_
      rintro e1 w2 ⟨rfl, hb2⟩
      have bx2 := bx1.below hb2 bx1.lt
      have hbW2 := Lib.hid (bt hbW1.out hb2)
      have z0 := bx2.cell (i := 0) rfl
      have z1 := bx2.cell (i := 1) rfl
      have z2 := bx2.cell (i := 2) rfl
      have z3 := bx2.cell (i := 3) rfl
      have fz := bx2.free
      have bf := Lib.hid (bx2.four (.int .i64 3) (.string ⟨#[]⟩) (.slice none 0 0) (.string (s.extract 0 N)))
      clear hb1 hb2
      go_wp2_with fail
      have q0 := bf.out.cell (i := 0) rfl
      have q1 := bf.out.cell (i := 1) rfl
      have q2 := bf.out.cell (i := 2) rfl
      have q3 := bf.out.cell (i := 3) rfl
      exact bodyPost_ret (v := .tuple #[.agg #[.int .i64 3, .string ⟨#[]⟩, .slice none 0 0, .string (s.extract 0 N)], .int .i64 (N : Int)]) (by simp [results, Tryz.results160, go_sem, q0, q1, q2, q3]) rfl (tokPost_nil (by omega) (four_below hbW2.out _ _ _ _ (Nat.le_refl _)))
end Go.Proofs.YteefodibpjgicaaGreat

namespace Go.Proofs.YteefodibpjgicaaGreat
open Go.RowKit
structure AddKept (g0 g1 : Nat) (v : Value) (w w' : World) : Prop where
  size : w.heap.size ≤ w'.heap.size
  block : ∀ k, k < w.heap.size → k ≠ g0 → k ≠ g1 → v.ownBlock ≠ some k → w'.heap[k]? = w.heap[k]?
  os : w'.os = w.os
  tape : w'.tape = w.tape
  output : w'.output = w.output
def AddPost (g0 g1 B : Nat) (v : Value) (s : ByteArray) (l : List Tok) (w : World) (e : Ending) (w' : World) : Prop :=
  e = .returned (.tuple #[]) ∧ ∃ v', Box w' g1 61 [v'] ∧ Box w' g0 9 [.string s] ∧ Toks w' B v' l ∧ AddKept g0 g1 v w w'
set_option maxHeartbeats 4000000 in
set_option maxRecDepth 100000 in
theorem tokAdd (t : Tok) (n : Nat) (s : ByteArray) (l : List Tok) (v va : Value) (g0 g1 B : Nat) (w : World) (b0 : Box w g0 9 [.string s]) (b1 : Box w g1 61 [v]) (hne : g0 ≠ g1) (h0 : g0 < B) (h1 : g1 < B) (hB : B ≤ w.heap.size)
    (hl : Toks w B v l) (hll : l.length ≤ 1073741824) (hn : n ≤ s.size) (hrow : Row (fun b => B ≤ b ∧ b < w.heap.size ∧ v.ownBlock ≠ some b) w 2 va t.attrs.length (cellsA t.attrs)) :
    Calls Tryz.prog 157 #[.agg #[.int .i64 t.kind, .string t.name, va, .string t.text], .int .i64 (n : Int), .pointer (some ⟨g1, 0, none⟩), .pointer (some ⟨g0, 0, none⟩)] w (AddPost g0 g1 B v (s.extract n s.size) (l ++ M5.keepT t) w) := by
  obtain ⟨wo, rfl⟩ : ∃ wo : World, wo = w := ⟨_, rfl⟩
  obtain ⟨av, cv, rfl⟩ := hrow.slice
  obtain ⟨a2, c2, rfl⟩ := hl.slice
  have hb0 := Lib.hid ((Below.refl wo.heap.size wo).alloc (Nat.le_refl _) (.cells #[.int .i64 t.kind, .string t.name, .slice av t.attrs.length cv, .string t.text] 87))
  have c0 := b0.alloc (.cells #[.int .i64 t.kind, .string t.name, .slice av t.attrs.length cv, .string t.text] 87)
  have c1 := b1.alloc (.cells #[.int .i64 t.kind, .string t.name, .slice av t.attrs.length cv, .string t.text] 87)
  have hl0 := hl.alloc (.cells #[.int .i64 t.kind, .string t.name, .slice av t.attrs.length cv, .string t.text] 87)
  have bt0 := Box.new wo 87 [.int .i64 t.kind, .string t.name, .slice av t.attrs.length cv, .string t.text]
  have hrow0 : Row (fun b => B ≤ b ∧ b < wo.heap.size ∧ (Value.slice a2 l.length c2).ownBlock ≠ some b) (wo.alloc (.cells #[.int .i64 t.kind, .string t.name, .slice av t.attrs.length cv, .string t.text] 87)) 2 (.slice av t.attrs.length cv) t.attrs.length (cellsA t.attrs) := hrow.keep (fun b hb => hb0.out.block b hb.2.1)
  have hz0 : (wo.alloc (.cells #[.int .i64 t.kind, .string t.name, .slice av t.attrs.length cv, .string t.text] 87)).heap.size = wo.heap.size + 1 := by simp
  have x0 := c0.cell (i := 0) rfl
  have x1 := c1.cell (i := 0) rfl
  have f0 := c0.free 0
  have f1 := c1.free 0
  have e1 : (n : Int) ≤ (s.size : Int) := by omega
  by_cases hk : t.kind = 0
  · have hk' : (t.kind != 0) = false := by rw [hk]; rfl
    have hkeep : M5.keepT t = [] := by unfold M5.keepT; rw [if_neg (by simpa using hk)]
    rw [hkeep, List.append_nil]
    replace hk := Lib.hid hk
    obtain ⟨xs, hown, hrep⟩ := hl0
    go_enter Tryz.func157, Tryz.ntmps157
    go_upto_region 1 with fail
    generalize wo.alloc (.cells #[.int .i64 t.kind, .string t.name, .slice av t.attrs.length cv, .string t.text] 87) = w0 at *
    have t0 := bt0.cell (i := 0) rfl
    have t1 := bt0.cell (i := 1) rfl
    have t2 := bt0.cell (i := 2) rfl
    have t3 := bt0.cell (i := 3) rfl
    go_wp2_with fail
    go_end0
    have hz : (w0.setCell ⟨g0, 0, none⟩ (.string (s.extract n s.size))).heap.size = wo.heap.size + 1 := by simp [hz0]
    refine ⟨rfl, _, c1.far (p := ⟨g0, 0, none⟩) (Ne.symm hne) _, c0.set 0 (.string (s.extract n s.size)), Toks.set (⟨xs, hown, hrep⟩ : Toks w0 B _ l) h0 _, ⟨by omega, fun k hk0 h2 h3 h4 => ?_, hb0.out.os, hb0.out.tape, hb0.out.output⟩⟩
    rw [Below.heap_setCell w0 ⟨g0, 0, none⟩ _ k h2, hb0.out.block k hk0]
  · have hk' : (t.kind != 0) = true := bne_iff_ne.2 hk
    have hkeep : M5.keepT t = [t] := by unfold M5.keepT; rw [if_pos hk]
    rw [hkeep]
    replace hk := Lib.hid hk
    obtain ⟨xs, hown, hrep⟩ := hl0
    go_enter Tryz.func157, Tryz.ntmps157
    go_upto_region 1 with fail
    generalize wo.alloc (.cells #[.int .i64 t.kind, .string t.name, .slice av t.attrs.length cv, .string t.text] 87) = w0 at *
    have t0 := bt0.cell (i := 0) rfl
    have t1 := bt0.cell (i := 1) rfl
    have t2 := bt0.cell (i := 2) rfl
    have t3 := bt0.cell (i := 3) rfl
    obtain ⟨gne0, gne1⟩ : (Value.slice a2 l.length c2).ownBlock ≠ some g0 ∧ (Value.slice a2 l.length c2).ownBlock ≠ some g1 := ⟨fun e => by have := (hl.lt e).1; omega, fun e => by have := (hl.lt e).1; omega⟩
    go_wp2_with (at_builtin; refine wpList_appOne w0 [.int .i64 t.kind, .string t.name, .slice av t.attrs.length cv, .string t.text] rfl _ _ 61 87 rfl B 4 Tryz.underlying61 infoT5 rfl (by omega) _ l.length xs rfl hown (wo.heap.size + 1) hz0 (by rfl) rfl (by simp [Value.oneCell']) (by omega) (by omega) (by omega) ?_; intro gg cap' w5 hown5 hgrow hat5; have d0 := c0.keep (hgrow.block _ c0.lt (Ne.symm gne0)); have d1 := c1.keep (hgrow.block _ c1.lt (Ne.symm gne1)); have y0 := d0.cell (i := 0) rfl; have y1 := d1.cell (i := 0) rfl; have q0 := d0.free 0; have q1 := d1.free 0; have z0 := (d0.far (p := ⟨g1, 0, none⟩) hne (.slice (some ⟨gg, 0, none⟩) (l.length + 1) cap')).cell (i := 0) rfl)
    go_end0
    have hlist : Toks w5 B (.slice (some ⟨gg, 0, none⟩) (l.length + 1) cap') (l ++ [t]) := Toks.snoc (w := w0) hrep (hrow0.mono (fun b hb => ⟨hb.1, by omega, hb.2.2⟩)) hgrow hat5 hown5
    have hz5 := hgrow.size
    refine ⟨rfl, _, (d1.set 0 (.slice (some ⟨gg, 0, none⟩) (l.length + 1) cap')).far (p := ⟨g0, 0, none⟩) (Ne.symm hne) (.string (s.extract n s.size)), (d0.far (p := ⟨g1, 0, none⟩) hne (.slice (some ⟨gg, 0, none⟩) (l.length + 1) cap')).set 0 (.string (s.extract n s.size)), (hlist.set h1 _).set h0 _, ⟨by simp; omega, fun k hk0 h2 h3 h4 => ?_, hgrow.os.trans hb0.out.os, hgrow.tape.trans hb0.out.tape, hgrow.output.trans hb0.out.output⟩⟩
    rw [Below.heap_setCell _ ⟨g0, 0, none⟩ _ k h2, Below.heap_setCell _ ⟨g1, 0, none⟩ _ k h3, hgrow.block k (by omega) (Ne.symm h4), hb0.out.block k hk0]
end Go.Proofs.YteefodibpjgicaaGreat

namespace Go.Proofs.YteefodibpjgicaaGreat
open Go.RowKit
def ToksPost (l : List Tok) (w : World) (e : Ending) (w' : World) : Prop := ∃ v, e = .returned v ∧ Toks w' w.heap.size v l ∧ Below w.heap.size w w'
theorem AddKept.below {g0 g1 B : Nat} {v : Value} {l : List Tok} {wo w w' : World} (h : AddKept g0 g1 v w w') (hb : Below wo.heap.size wo w) (h0 : wo.heap.size ≤ g0) (h1 : wo.heap.size ≤ g1) (hB : wo.heap.size ≤ B) (hl : Toks w B v l) : Below wo.heap.size wo w' :=
  ⟨h.os.trans hb.os, h.tape.trans hb.tape, h.output.trans hb.output, Nat.le_trans hb.size h.size, fun k hk => by
    have hz := hb.size
    rw [h.block k (by omega) (by omega) (by omega) (fun e => by have := (hl.lt e).1; omega)]
    exact hb.block k hk⟩
theorem Toks.base {w : World} {B B' : Nat} {v : Value} {l : List Tok} (h : Toks w B v l) (hb : B' ≤ B) : Toks w B' v l := by
  obtain ⟨xs, h1, h2⟩ := h
  exact ⟨xs, own_le h1 hb, RepT.mono (fun b hb' => ⟨by omega, hb'.2.1, hb'.2.2⟩) _ _ h2⟩
theorem own_new {w w0 : World} {B n : Nat} {v va : Value} {l : List Tok} {xs : List Value} (h : w.ownsRow w0.heap.size 43 2 va n xs) (hl : Toks w0 B v l) (hB : B ≤ w0.heap.size) : Row (fun b => B ≤ b ∧ b < w.heap.size ∧ v.ownBlock ≠ some b) w 2 va n xs :=
  Row.own h (fun g hg => by
    have h1 := h.lt g hg
    exact ⟨by omega, h1.2, fun e => by have := (hl.lt e).2; omega⟩)
theorem keepT_len (t : Tok) : (M5.keepT t).length ≤ 1 := by unfold M5.keepT; split <;> simp
theorem bs_cut0 (R : List UInt8) (n : Nat) : (M5.bs R).extract n (M5.bs R).size = M5.bs (R.drop n) := by rw [bs_size, bs_drop]
theorem fold_len (l : List UInt8) : (M1.fold l).length = l.length := by unfold M1.fold; rw [List.length_map]
theorem begin_name_le (l : List UInt8) : (M5.beginR l).1.name.size ≤ l.length := by
  unfold M5.beginR
  split
  · show (M5.bs (M1.fold ((l.drop 1).takeWhile M5.nameB))).size ≤ _
    rw [bs_size, fold_len]
    have h1 := (List.takeWhile_prefix (l := l.drop 1) M5.nameB).length_le
    have h2 : (l.drop 1).length = l.length - 1 := List.length_drop
    omega
  · exact Nat.zero_le _
theorem tag_name_le (l : List UInt8) : (M5.tagR l).1.name.size ≤ l.length := by
  unfold M5.tagR
  split
  · split
    · rename_i c d r _
      split
      · exact begin_name_le _
      · split
        · exact Nat.zero_le _
        · split
          · exact Nat.zero_le _
          · split
            · split
              · show (M5.bs (M1.fold (r.takeWhile M5.nameB))).size ≤ _
                rw [bs_size, fold_len]
                have h1 := (List.takeWhile_prefix (l := r) M5.nameB).length_le
                simp only [List.length_cons]
                omega
              · exact Nat.zero_le _
            · exact Nat.zero_le _
    · exact Nat.zero_le _
  · exact Nat.zero_le _
set_option maxHeartbeats 8000000 in
set_option maxRecDepth 100000 in
theorem tokTokens (s : ByteArray) (w : World) (hg : Glo w) (hs : s.size ≤ 1073741824) : Calls Tryz.prog 156 #[.string s] w (ToksPost (M5.tokens s.data.toList) w) := by
  obtain ⟨wo, rfl⟩ : ∃ wo : World, wo = w := ⟨_, rfl⟩
  have hE : ∀ (args : Array Value) (w : World), (callFunc 157 args).run Tryz.prog w = .ok (.enter 157 args) w := enters_of Tryz.func157 (by kernel_rfl) rfl
  obtain ⟨T, hT⟩ : ∃ T, Hid (T = M5.tokens s.data.toList) := ⟨_, rfl⟩
  rw [← hT.out]
  have bs0 := (Box.new wo 9 [.string s]).alloc (.cells #[.slice none 0 0] 61)
  have bo0 := Box.new (wo.alloc (.cells #[.string s] 9)) 61 [.slice none 0 0]
  have hb0 := ((Below.refl _ wo).alloc (Nat.le_refl _) (.cells #[.string s] 9)).alloc (by simp) (.cells #[.slice none 0 0] 61)
  have hz0 : (wo.alloc (.cells #[.string s] 9)).heap.size = wo.heap.size + 1 := by simp
  rw [hz0] at bo0
  go_enter Tryz.func156, Tryz.ntmps156
  go_wp2_with fail
  go_loopw [] (fun wr => ∃ (R : List UInt8) (acc : List Tok) (v : Value), Box wr wo.heap.size 9 [.string (M5.bs R)] ∧ Box wr (wo.heap.size + 1) 61 [v] ∧ Toks wr (wo.heap.size + 2) v acc ∧ Below wo.heap.size wo wr ∧ wo.heap.size + 2 ≤ wr.heap.size ∧ acc.length + R.length ≤ s.size ∧ Hid (T = acc ++ M5.toksR [] R)) (fun wr => strLen ((wr.cell? ⟨wo.heap.size, 0, none⟩).getD undef))
  case atStart => exact ⟨s.data.toList, [], .slice none 0 0, by rw [M5.bs_of]; exact bs0, bo0, Toks.nil _ _, hb0, by simp, by show 0 + s.size ≤ s.size; omega, by show _ = _; rw [hT.out, M5.tokens_eq, List.nil_append]⟩
  case round =>
    obtain ⟨R, acc, v, bs1, bo1, hl, hbw, hws, hal, hv⟩ := hrel
    have hRz : (M5.bs R).size = R.length := bs_size R
    have x0 := bs1.cell (i := 0) rfl
    have x1 := bo1.cell (i := 0) rfl
    have hmeas : ∀ (w' : World) (R' : List UInt8), Box w' wo.heap.size 9 [.string (M5.bs R')] → R'.length < R.length → strLen ((w'.cell? ⟨wo.heap.size, 0, none⟩).getD undef) < strLen ((wr.cell? ⟨wo.heap.size, 0, none⟩).getD undef) := fun w' R' hb hlt => by
      rw [hb.cell (i := 0) rfl, x0]
      show (M5.bs R').size < (M5.bs R).size
      rw [bs_size, hRz]
      exact hlt
    replace hmeas := Lib.hid hmeas
    by_cases hR : R = []
    · have hem : (M5.bs R).toList.isEmpty = true := isEmpty_yes _ (by rw [hRz, hR]; rfl)
      have hne : (!(M5.bs R).toList.isEmpty) = false := by rw [hem]; rfl
      have hTe : T = acc := by rw [hv.out, hR, M5.toksR_nil]; simp [M5.charsT]
      replace hR := Lib.hid hR
      replace hTe := Lib.hid hTe
      go_wp2_with fail
      go_ret
      exact ⟨v, rfl, by rw [hTe.out]; exact hl.base (by omega), hbw⟩
    · have hRp : 0 < R.length := List.length_pos_iff.2 hR
      have hem : (M5.bs R).toList.isEmpty = false := isEmpty_no _ (by omega)
      have hne : (!(M5.bs R).toList.isEmpty) = true := by rw [hem]; rfl
      have hTag := Lib.hid (tokTag (M5.bs R) wr (hg.below hbw (Nat.le_refl _)) (by omega))
      rw [M5.bs_data, hRz] at hTag
      replace hR := Lib.hid hR
      go_wp2_with fail
      refine hTag.out.mono ?_
      rintro e1 w2 ⟨va, rfl, hown, hb2⟩
      have bs2 := bs1.below hb2 bs1.lt
      have bo2 := bo1.below hb2 bo1.lt
      have hl2 := hl.below hb2
      have hbw2 := Lib.hid (bt hbw hb2)
      have hws2 : wo.heap.size + 2 ≤ w2.heap.size := Nat.le_trans hws hb2.size
      have hlr := hl
      have hwsr := hws
      clear x0 x1 bs1 bo1 hl hbw hws hb2
      cases hsB : M5.startsB R
      · have htg : M5.tagR R = (M5.zero, R.drop 0) := tag_no R hsB
        have hn0 : R.length - (M5.tagR R).2.length = 0 := by rw [htg]; show R.length - (R.drop 0).length = 0; rw [List.drop_zero]; omega
        clear hTag htg
        generalize (M5.tagR R).1 = t0 at *
        rw [hn0]
        clear hn0
        obtain ⟨a0, c0, rfl⟩ := own_slice5 hown
        have hCh := Lib.hid (fun w => tokChars (M5.bs R) w (by omega))
        rw [M5.bs_data] at hCh
        have hstep := Lib.hid (M5.toks_step R hR.out hsB)
        have hpos := M5.plain_pos R hR.out hsB
        have hple := M5.plainN_le R
        obtain ⟨N, hN⟩ : ∃ N, N = M5.plainN R := ⟨_, rfl⟩
        rw [← hN] at hCh hstep hpos hple
        obtain ⟨t, ht⟩ : ∃ t, t = M5.charsC R := ⟨_, rfl⟩
        rw [← ht] at hCh
        have hk1 : (t.kind == 1) = false := by rw [ht]; rfl
        have hstep2 : Hid (M5.toksR [] R = M5.keepT t ++ M5.toksR [] (R.drop N)) := by
          show _ = _
          rw [hstep.out, ht]
          unfold M5.charsC
          rw [← hN]
          rfl
        replace ht := Lib.hid ht
        replace hN := Lib.hid hN
        clear hstep hown
        have bt3 := Box.new w2 87 [.int .i64 t0.kind, .string t0.name, .slice a0 t0.attrs.length c0, .string t0.text]
        have hb3 := (Below.refl w2.heap.size w2).alloc (Nat.le_refl _) (.cells #[.int .i64 t0.kind, .string t0.name, .slice a0 t0.attrs.length c0, .string t0.text] 87)
        have y0 := (bs2.alloc (.cells #[.int .i64 t0.kind, .string t0.name, .slice a0 t0.attrs.length c0, .string t0.text] 87)).cell (i := 0) rfl
        replace hb3 := Lib.hid hb3
        go_wp2_with fail
        refine (hCh.out _).mono ?_
        rintro e1 w4 ⟨vb, rfl, hown4, hb4⟩
        have bt4 := bt3.below hb4 bt3.lt
        have hb24 := bt hb3.out hb4
        have z0 := bt4.cell (i := 0) rfl
        have z1 := bt4.cell (i := 1) rfl
        have z2 := bt4.cell (i := 2) rfl
        have z3 := bt4.cell (i := 3) rfl
        have fz := bt4.free
        obtain ⟨a4, c4, rfl⟩ := own_slice5 hown4
        have bt5 := Lib.hid (bt4.four (.int .i64 t.kind) (.string t.name) (.slice a4 t.attrs.length c4) (.string t.text))
        have hb25 := Lib.hid (four_below hb24 (g := w2.heap.size) (.int .i64 t.kind) (.string t.name) (.slice a4 t.attrs.length c4) (.string t.text) (Nat.le_refl _))
        have hown5 := Lib.hid (own_four (g := w2.heap.size) hown4 (by simp) (.int .i64 t.kind) (.string t.name) (.slice a4 t.attrs.length c4) (.string t.text))
        clear hb4 hb24 hown4 y0 bt3
        go_upto_region 7 with fail
        generalize ((((w4.setCell ⟨w2.heap.size, 0, none⟩ (.int .i64 t.kind)).setCell ⟨w2.heap.size, 1, none⟩ (.string t.name)).setCell ⟨w2.heap.size, 2, none⟩ (.slice a4 t.attrs.length c4)).setCell ⟨w2.heap.size, 3, none⟩ (.string t.text)) = w5 at *
        clear bt4 z0 z1 z2 z3 fz
        have u0 := bt5.out.cell (i := 0) rfl
        have u1 := bt5.out.cell (i := 1) rfl
        have u2 := bt5.out.cell (i := 2) rfl
        have u3 := bt5.out.cell (i := 3) rfl
        have hz5 := hb25.out.size
        have hadd := Lib.hid (tokAdd t N (M5.bs R) acc v (.slice a4 t.attrs.length c4) wo.heap.size (wo.heap.size + 1) (wo.heap.size + 2) w5 (bs2.below hb25.out bs2.lt) (bo2.below hb25.out bo2.lt) (by omega) (by omega) (by omega) (by omega) (hl2.below hb25.out) (by omega) (by omega) (own_new (own_le hown5.out (by simp)) hl2 hws2))
        go_wp2_with fail
        refine hadd.out.mono ?_
        rintro e1 w6 ⟨rfl, v6, bo6, bs6, hl6, hk6⟩
        have hvt : v.ownBlock ≠ some w2.heap.size := fun e => by have := (hl2.lt e).2; omega
        have bt6 := bt5.out.keep (hk6.block _ bt5.out.lt (by omega) (by omega) hvt)
        rw [bs_cut0] at bs6
        have hb26 := Lib.hid (hk6.below (bt hbw2.out hb25.out) (Nat.le_refl _) (by omega) (by omega) (hl2.below hb25.out))
        have u0 := bt6.cell (i := 0) rfl
        have u1 := bt6.cell (i := 1) rfl
        go_wp2_with fail
        go_roundw
        case rel => exact ⟨R.drop N, acc ++ M5.keepT t, v6, bs6, bo6, hl6, hb26.out, by have := hk6.size; omega, by have := keepT_len t; rw [List.length_append, List.length_drop]; omega, by show _ = _; rw [hv.out, hstep2.out, List.append_assoc]⟩
        case measure => exact hmeas.out _ _ bs6 (by rw [List.length_drop]; omega)
      · have htl := M5.tag_lt R hsB
        have hat := (M5.tag_suf R).at_
        have hle := (M5.tag_suf R).le
        have hnm := tag_name_le R
        obtain ⟨N, hN⟩ : ∃ N, Hid (N = R.length - (M5.tagR R).2.length) := ⟨_, rfl⟩
        rw [← hN.out] at hat ⊢
        have hNp : 0 < N := by rw [hN.out]; omega
        have hNle : N ≤ R.length := by rw [hN.out]; omega
        have hraw := M5.round_raw R hsB
        have htag := M5.round_tag R hsB
        rw [← hat] at hraw htag
        have hrl : (R.drop N).length = R.length - N := List.length_drop
        clear hTag htl hat hle
        generalize (M5.tagR R).1 = t at *
        obtain ⟨a0, c0, rfl⟩ := own_slice5 hown
        have bt3 := Box.new w2 87 [.int .i64 t.kind, .string t.name, .slice a0 t.attrs.length c0, .string t.text]
        have hb3 := (Below.refl w2.heap.size w2).alloc (Nat.le_refl _) (.cells #[.int .i64 t.kind, .string t.name, .slice a0 t.attrs.length c0, .string t.text] 87)
        have hown3 := hown.alloc (.cells #[.int .i64 t.kind, .string t.name, .slice a0 t.attrs.length c0, .string t.text] 87)
        have hNz : ((N : Int) == 0) = false := by rw [beq_eq_false_iff_ne]; omega
        replace hb3 := Lib.hid hb3
        replace hown3 := Lib.hid hown3
        replace hraw := Lib.hid hraw
        replace htag := Lib.hid htag
        replace hN := Lib.hid hN
        clear hown
        go_upto_region 7 with fail
        have hz3 : w2.heap.size < (w2.alloc (.cells #[.int .i64 t.kind, .string t.name, .slice a0 t.attrs.length c0, .string t.text] 87)).heap.size := bt3.lt
        generalize w2.alloc (.cells #[.int .i64 t.kind, .string t.name, .slice a0 t.attrs.length c0, .string t.text] 87) = w3 at *
        have u0 := bt3.cell (i := 0) rfl
        have u1 := bt3.cell (i := 1) rfl
        have u2 := bt3.cell (i := 2) rfl
        have u3 := bt3.cell (i := 3) rfl
        have hl3 := hl2.below hb3.out
        have hadd := Lib.hid (tokAdd t N (M5.bs R) acc v (.slice a0 t.attrs.length c0) wo.heap.size (wo.heap.size + 1) (wo.heap.size + 2) w3 (bs2.below hb3.out bs2.lt) (bo2.below hb3.out bo2.lt) (by omega) (by omega) (by omega) (by omega) hl3 (by omega) (by omega) (own_new hown3.out hlr hwsr))
        go_wp2_with fail
        refine hadd.out.mono ?_
        rintro e1 w6 ⟨rfl, v6, bo6, bs6, hl6, hk6⟩
        have hvt : v.ownBlock ≠ some w2.heap.size := fun e => by have := (hl2.lt e).2; omega
        have bt6 := bt3.keep (hk6.block _ bt3.lt (by omega) (by omega) hvt)
        rw [bs_cut0] at bs6
        have hb26 := Lib.hid (hk6.below (bt hbw2.out hb3.out) (Nat.le_refl _) (by omega) (by omega) hl3)
        have u0 := bt6.cell (i := 0) rfl
        have u1 := bt6.cell (i := 1) rfl
        have hz6 := hk6.size
        have hlen6 : (acc ++ M5.keepT t).length + (R.drop N).length ≤ s.size := by have := keepT_len t; rw [List.length_append, hrl]; omega
        by_cases hk1 : t.kind = 1
        · have ek : (t.kind == 1) = true := beq_iff_eq.2 hk1
          have hRaw := Lib.hid (fun w => domRaw t.name w)
          replace hk1 := Lib.hid hk1
          cases hrw : M3.rawB t.name.data.toList
          · have hst := htag.out (fun h => by rw [hrw] at h; cases h.2)
            replace hst := Lib.hid hst
            replace hrw := Lib.hid hrw
            go_wp2_with fail
            refine (hRaw.out _).mono ?_
            rintro e1 w7 ⟨rfl, rfl⟩
            rw [hrw.out]
            go_wp2_with fail
            go_roundw
            case rel => exact ⟨R.drop N, acc ++ M5.keepT t, v6, bs6, bo6, hl6, hb26.out, by omega, hlen6, by show _ = _; rw [hv.out, hst.out, List.append_assoc]⟩
            case measure => exact hmeas.out _ _ bs6 (by omega)
          · have hst := hraw.out ⟨hk1.out, hrw⟩
            have hnms : t.name.size ≤ 1073741824 := by omega
            have hC := Lib.hid (fun w => tokContent (M5.bs (R.drop N)) t.name w (by rw [bs_size]; omega) hnms)
            rw [M5.bs_data] at hC
            have hEle := M5.endN_le t.name.data.toList (R.drop N)
            generalize M5.endN t.name.data.toList (R.drop N) = E at *
            have hctl : (M5.keepT (M5.contC E (R.drop N))).length ≤ E := by
              have h1 := keepT_len (M5.contC E (R.drop N))
              by_cases hE0 : E = 0
              · subst hE0
                exact Nat.le_refl _
              · omega
            generalize M5.contC E (R.drop N) = ct at *
            replace hst := Lib.hid hst
            replace hrw := Lib.hid hrw
            have x6 := bs6.cell (i := 0) rfl
            go_wp2_with fail
            refine (hRaw.out _).mono ?_
            rintro e1 w7 ⟨rfl, rfl⟩
            rw [hrw.out]
            go_wp2_with fail
            refine (hC.out _).mono ?_
            rintro e1 w8 ⟨vc, rfl, hown8, hb8⟩
            have bs8 := bs6.below hb8 bs6.lt
            have bo8 := bo6.below hb8 bo6.lt
            have hl8 := hl6.below hb8
            have hb28 := Lib.hid (bt hb26.out hb8)
            have hz8 := hb8.size
            have hadd2 := Lib.hid (tokAdd ct E (M5.bs (R.drop N)) (acc ++ M5.keepT t) v6 vc wo.heap.size (wo.heap.size + 1) (wo.heap.size + 2) w8 bs8 bo8 (by omega) (by omega) (by omega) (by omega) hl8 (by omega) (by rw [bs_size]; exact hEle) (own_new hown8 hl6 (by omega)))
            obtain ⟨a8, c8, rfl⟩ := own_slice5 hown8
            clear x6 u0 u1 hb8
            go_wp2_with fail
            refine hadd2.out.mono ?_
            rintro e1 w9 ⟨rfl, v9, bo9, bs9, hl9, hk9⟩
            have hb29 := Lib.hid (hk9.below hb28.out (Nat.le_refl _) (by omega) (by omega) hl8)
            have hz9 := hk9.size
            rw [bs_cut0] at bs9
            go_wp2_with fail
            go_roundw
            case rel => exact ⟨(R.drop N).drop E, acc ++ M5.keepT t ++ M5.keepT ct, v9, bs9, bo9, hl9, hb29.out, by omega, by rw [List.length_append, List.length_drop]; omega, by show _ = _; rw [hv.out, hst.out, List.append_assoc, List.append_assoc]⟩
            case measure => exact hmeas.out _ _ bs9 (by rw [List.length_drop]; omega)
        · have ek : (t.kind == 1) = false := beq_eq_false_iff_ne.2 hk1
          have hst := htag.out (fun h => hk1 h.1)
          replace hk1 := Lib.hid hk1
          replace hst := Lib.hid hst
          go_wp2_with fail
          go_roundw
          case rel => exact ⟨R.drop N, acc ++ M5.keepT t, v6, bs6, bo6, hl6, hb26.out, by omega, hlen6, by show _ = _; rw [hv.out, hst.out, List.append_assoc]⟩
          case measure => exact hmeas.out _ _ bs6 (by omega)
end Go.Proofs.YteefodibpjgicaaGreat
