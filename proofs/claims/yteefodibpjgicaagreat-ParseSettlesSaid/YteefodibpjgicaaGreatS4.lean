/- Texts joined: Dom5, Tell, Dom6, Dom7, Cut, Open3, Clone, Clone2, Shal, Ref03m, Refs, Refs2, DomM2, Clone3, DomM3, Same, Same2, Same3, Ref03s, Law03m, Ref03y, Law03g, Ref03x, Math3g. -/
import Derived.RangeFuncNested
import Derived.RangeFuncBound
import Derived.RangeFuncLeaves
import Derived.Shelf.Abstract
import Derived.OwnWalkIn
import Derived.TacticsInMore
import Derived.LoopNIn
import Derived.LoopIn
import Derived.Test.YteefodibpjgicaaGreatRows
import Derived.Deep.RegionHeld3
import Derived.Deep.AppendLies
import Derived.ChangeArms
import Derived.DataReads
import Derived.ChangeOld
import Derived.Laws.MakeOwn
import Derived.Laws.Entries
import Derived.StillTailTactics
import Derived.BigCall
import Derived.Deep.QuietTactic
import Derived.BigQuiet
import Derived.IntWalk
import Derived.Test.YteefodibpjgicaaGreatS1
import Derived.Test.YteefodibpjgicaaGreatS2
import Derived.Test.YteefodibpjgicaaGreatS3
namespace Go.Proofs.YteefodibpjgicaaGreat
open Go.RowKit Go.Maps Go.WideShapes
theorem Fit1.attr {x : Nd} (h : Fit1 x) : ∀ a ∈ x.attrs, a.name.size ≤ 268435456 := fun a ha => (h.2.2.1 a ha).1
set_option maxHeartbeats 4000000 in
set_option maxRecDepth 100000 in
theorem domElement (S : Nat → Prop) (x : Nd) (va vk : Value) (w : World) (hS : ∀ b, S b → b < w.heap.size) (hx : RepV S w x va vk) (hf : Fit1 x) :
    Calls Tryz.prog 76 #[x.val va vk] w fun e w' => e = .returned (.int .i64 (M3.elemF x.name x.attrs)) ∧ Below w.heap.size w w' := by
  obtain ⟨hat, hkd⟩ := hx
  have hN := fun w hS hat => domNames S va x.attrs w hS hat hf.attr
  obtain ⟨a, cap, rfl⟩ := hat.slice
  obtain ⟨_, hlc, hcm⟩ := hat.len
  obtain ⟨a2, cap2, rfl⟩ := hkd.slice
  cases x with | mk k n ats t ks =>
  obtain ⟨hf1, hf2, hf3, _⟩ := hf
  simp only [Nd.val, Nd.kind, Nd.name, Nd.text, Nd.attrs, Nd.kids] at *
  have hb0 := (Below.refl w.heap.size w).alloc (Nat.le_refl _) (.cells #[.int .i64 k, .string n, .slice a ats.length cap, .string t, .slice a2 ks.length cap2] 41)
  have hbx0 := Box.new w 41 [.int .i64 k, .string n, .slice a ats.length cap, .string t, .slice a2 ks.length cap2]
  have hNa := Lib.hid (fun W => domNamed n W (by omega))
  have hr : Hid (M3.elemF n ats = if M3.namedB n.data.toList then (if M3.namesE [] ats = 0 then M3.valuesE ats else M3.namesE [] ats) else 4) := rfl
  generalize M3.namedB n.data.toList = p at *
  cases p
  · replace hr : Hid (M3.elemF n ats = 4) := hr
    clear hN
    go_enter Tryz.func76, Tryz.ntmps76
    go_wp2_with fail
    refine (hNa.out _).mono ?_
    rintro e w1 ⟨rfl, hb1⟩
    go_wp2
    go_ret
    exact ⟨by rw [hr.out]; rfl, hb0.trans (hb1.mono (by simp))⟩
  replace hr : Hid (M3.elemF n ats = if M3.namesE [] ats = 0 then M3.valuesE ats else M3.namesE [] ats) := hr
  replace hN := Lib.hid hN
  generalize M3.namesE [] ats = z at *
  go_enter Tryz.func76, Tryz.ntmps76
  go_wp2_with fail
  refine (hNa.out _).mono ?_
  rintro e w1 ⟨rfl, hb1⟩
  have hbx1 := hbx0.below hb1 (by simp)
  have hc1 := hbx1.cell (i := 2) rfl
  have hbw1 : Below w.heap.size w w1 := hb0.trans (hb1.mono (by simp))
  have hz1 := hbx1.lt
  have hat1 := hat.below hS hbw1
  clear hbx0
  replace hbx1 := Lib.hid hbx1
  go_wp2_with fail
  refine (hN.out w1 (fun b h => by have := hS b h; omega) hat1).mono ?_
  rintro e w2 ⟨rfl, hb2⟩
  have hbx2 := hbx1.out.below hb2 hz1
  have hc2 := hbx2.cell (i := 2) rfl
  have hbw2 : Below w.heap.size w w2 := hbw1.trans (hb2.mono (by omega))
  have hz2 := hbx2.lt
  clear hc1
  by_cases hz : z = 0
  · rw [if_pos hz] at hr
    subst hz
    go_wp2
    go_loopw [19] (fun u19 wr => ∃ i : Nat, i ≤ ats.length ∧ u19 = .int .i64 (i : Int) ∧ Below w.heap.size w wr ∧ Hid (M3.valuesE ats = M3.valuesE (ats.drop i))) (fun u19 _ => ats.length - (intOf u19).toNat)
    case atStart => exact ⟨0, by omega, rfl, hbw2, rfl⟩
    case round =>
      obtain ⟨i, hi, rfl, hb, hv⟩ := hrel
      have hzz := hb.size
      by_cases hlt : i < ats.length
      · obtain ⟨b, off, rfl, hSb, c0, c1⟩ := (hat.below hS hb).atA i hlt
        have hbl := hS b hSb
        have hsn := (hf3 _ (List.getElem_mem hlt)).2
        have hdr : ats.drop i = ats[i] :: ats.drop (i + 1) := List.drop_eq_getElem_cons hlt
        rw [hdr, M3.valuesE] at hv
        generalize ats[i].value = vl at *
        generalize ats[i].name = nm at *
        clear hdr
        have hI := Lib.hid (fun W => utfIs vl W (by omega))
        generalize M1.isB vl.data.toList = q at *
        go_wp2_with fail
        refine (hI.out _).mono ?_
        rintro e w3 ⟨rfl, hb3⟩
        have hbw3 : Below w.heap.size w w3 := (hb.alloc hzz (.cells #[.string nm, .string vl] 43)).trans (hb3.mono (by simp; omega))
        clear hc2
        cases q
        · have hv2 : Hid (M3.valuesE ats = 2) := hv
          go_wp2
          go_ret
          exact ⟨by rw [hr.out, hv2.out]; rfl, hbw3⟩
        · have hv2 : Hid (M3.valuesE ats = M3.valuesE (ats.drop (i + 1))) := hv
          clear hv
          go_wp2
          go_roundw
          case rel => exact ⟨i + 1, by omega, by go_num, hbw3, hv2⟩
          case measure => simp [intOf]; omega
      · have hvd : Hid (M3.valuesE ats = 0) := by show _ = _; rw [hv.out, List.drop_of_length_le (by omega)]; rfl
        go_wp2
        go_ret
        exact ⟨by rw [hr.out, hvd.out]; rfl, hb⟩
  · rw [if_neg hz] at hr
    have hzb : (z == 0) = false := by simpa using hz
    go_wp2
    go_ret
    exact ⟨by rw [hr.out]; rfl, hbw2⟩
set_option maxHeartbeats 4000000 in
set_option maxRecDepth 100000 in
theorem domFault (S : Nat → Prop) (x : Nd) (va vk : Value) (ah : Int) (w : World) (hS : ∀ b, S b → b < w.heap.size) (hx : RepV S w x va vk) (hf : Fit1 x) :
    Calls Tryz.prog 54 #[x.val va vk, .int .i64 ah] w fun e w' => e = .returned (.int .i64 (M3.oneE x (ah == 2))) ∧ Below w.heap.size w w' := by
  have hK := Lib.hid (fun W (h : RepV S W x va vk) => domKindly S x va vk W h)
  have hE := Lib.hid (fun W h1 h2 => domElement S x va vk W h1 h2 hf)
  obtain ⟨hf1, hf2, hf3, _⟩ := hf
  have hI := Lib.hid (fun W => utfIs x.text W (by omega))
  have hr : Hid (M3.oneE x (ah == 2) = M3.oneF x.kind x.name x.attrs x.text x.kids (ah == 2)) := by
    cases x; exact M3.oneE_mk _ _ _ _ _ _
  unfold M3.oneF at hr
  have hbx0 := Box.new w 41 (x.cells va vk)
  have hb0 := (Below.refl w.heap.size w).alloc (Nat.le_refl _) (.cells (x.cells va vk).toArray 41)
  have hx0 := hx.below hS hb0
  have hkf : M3.kindlyF x.kind x.name x.attrs x.text x.kids = true → x.kind = 1 ∨ x.kind = 2 ∨ x.kind = 3 := by
    intro h
    unfold M3.kindlyF at h
    by_cases h1 : x.kind = 1
    · exact Or.inl h1
    · rw [if_neg h1] at h
      by_cases h2 : x.kind = 2 ∨ x.kind = 3
      · exact Or.inr h2
      · rw [if_neg h2] at h; cases h
  generalize M3.kindlyF x.kind x.name x.attrs x.text x.kids = p at *
  cases x with | mk k n ats t ks =>
  simp only [Nd.val, Nd.kind, Nd.name, Nd.text, Nd.attrs, Nd.cells] at *
  cases p
  · replace hr : Hid (M3.oneE (.mk k n ats t ks) (ah == 2) = 7) := hr
    clear hE hI hkf
    go_enter Tryz.func54, Tryz.ntmps54
    go_wp2_with fail
    refine (hK.out _ hx0).mono ?_
    rintro e w1 ⟨rfl, hb1⟩
    go_wp2
    go_ret
    exact ⟨by rw [hr.out]; rfl, hb0.trans (hb1.mono (by simp))⟩
  replace hkf := hkf rfl
  replace hr : Hid (M3.oneE (.mk k n ats t ks) (ah == 2) = if k = 1 then M3.elemF n ats else if (M1.isB t.data.toList && !(decide (k = 2) && (M3.nilB t || (ah == 2)))) = true then 0 else 2) := hr
  rcases Or.symm hkf with hkf | hkf
  · rw [if_neg (by omega)] at hr
    clear hE
    generalize hq : M1.isB t.data.toList = q at *
    clear hq
    rcases hkf with rfl | rfl
    · replace hr : Hid (M3.oneE (.mk 2 n ats t ks) (ah == 2) = if (q && !(t.toList.isEmpty || (ah == 2))) = true then 0 else 2) := hr
      cases heb : t.toList.isEmpty
      · rw [heb] at hr
        cases hah : (ah == 2)
        · rw [hah] at hr
          go_enter Tryz.func54, Tryz.ntmps54
          go_wp2_with fail
          refine (hK.out _ hx0).mono ?_
          rintro e w1 ⟨rfl, hb1⟩
          have hbx1 := hbx0.below hb1 (by simp)
          have c0 := hbx1.cell (i := 0) rfl
          have c3 := hbx1.cell (i := 3) rfl
          have hbw1 : Below w.heap.size w w1 := hb0.trans (hb1.mono (by simp))
          clear hbx0
          replace hbx1 := Lib.hid hbx1
          go_wp2_with fail
          refine (hI.out _).mono ?_
          rintro e w2 ⟨rfl, hb2⟩
          cases q
          · have hr2 : Hid (M3.oneE (.mk 2 n ats t ks) false = 2) := by show _ = _; rw [hr.out]; rfl
            go_wp2
            go_ret
            exact ⟨by rw [hr2.out]; rfl, hbw1.trans (hb2.mono hbw1.size)⟩
          · have hr2 : Hid (M3.oneE (.mk 2 n ats t ks) false = 0) := by show _ = _; rw [hr.out]; rfl
            go_wp2
            go_ret
            exact ⟨by rw [hr2.out]; rfl, hbw1.trans (hb2.mono hbw1.size)⟩
        · rw [hah] at hr
          have hr2 : Hid (M3.oneE (.mk 2 n ats t ks) true = 2) := by show _ = _; rw [hr.out]; cases q <;> rfl
          go_enter Tryz.func54, Tryz.ntmps54
          go_wp2_with fail
          refine (hK.out _ hx0).mono ?_
          rintro e w1 ⟨rfl, hb1⟩
          have hbx1 := hbx0.below hb1 (by simp)
          have c0 := hbx1.cell (i := 0) rfl
          have c3 := hbx1.cell (i := 3) rfl
          have hbw1 : Below w.heap.size w w1 := hb0.trans (hb1.mono (by simp))
          clear hbx0
          replace hbx1 := Lib.hid hbx1
          go_wp2
          go_ret
          exact ⟨by rw [hr2.out]; rfl, hbw1⟩
      · rw [heb] at hr
        have hr2 : Hid (M3.oneE (.mk 2 n ats t ks) (ah == 2) = 2) := by show _ = _; rw [hr.out]; cases q <;> rfl
        go_enter Tryz.func54, Tryz.ntmps54
        go_wp2_with fail
        refine (hK.out _ hx0).mono ?_
        rintro e w1 ⟨rfl, hb1⟩
        have hbx1 := hbx0.below hb1 (by simp)
        have c0 := hbx1.cell (i := 0) rfl
        have c3 := hbx1.cell (i := 3) rfl
        have hbw1 : Below w.heap.size w w1 := hb0.trans (hb1.mono (by simp))
        clear hbx0
        replace hbx1 := Lib.hid hbx1
        go_wp2
        go_ret
        exact ⟨by rw [hr2.out]; rfl, hbw1⟩
    · replace hr : Hid (M3.oneE (.mk 3 n ats t ks) (ah == 2) = if (q && true) = true then 0 else 2) := hr
      go_enter Tryz.func54, Tryz.ntmps54
      go_wp2_with fail
      refine (hK.out _ hx0).mono ?_
      rintro e w1 ⟨rfl, hb1⟩
      have hbx1 := hbx0.below hb1 (by simp)
      have c0 := hbx1.cell (i := 0) rfl
      have c3 := hbx1.cell (i := 3) rfl
      have hbw1 : Below w.heap.size w w1 := hb0.trans (hb1.mono (by simp))
      clear hbx0
      replace hbx1 := Lib.hid hbx1
      go_wp2_with fail
      refine (hI.out _).mono ?_
      rintro e w2 ⟨rfl, hb2⟩
      cases q
      · have hr2 : Hid (M3.oneE (.mk 3 n ats t ks) (ah == 2) = 2) := by show _ = _; rw [hr.out]; rfl
        go_wp2
        go_ret
        exact ⟨by rw [hr2.out]; rfl, hbw1.trans (hb2.mono hbw1.size)⟩
      · have hr2 : Hid (M3.oneE (.mk 3 n ats t ks) (ah == 2) = 0) := by show _ = _; rw [hr.out]; rfl
        go_wp2
        go_ret
        exact ⟨by rw [hr2.out]; rfl, hbw1.trans (hb2.mono hbw1.size)⟩
  · subst hkf
    rw [if_pos rfl] at hr
    clear hI
    go_enter Tryz.func54, Tryz.ntmps54
    go_wp2_with fail
    refine (hK.out _ hx0).mono ?_
    rintro e w1 ⟨rfl, hb1⟩
    have hbx1 := hbx0.below hb1 (by simp)
    have c0 := hbx1.cell (i := 0) rfl
    have c1 := hbx1.cell (i := 1) rfl
    have c2 := hbx1.cell (i := 2) rfl
    have c3 := hbx1.cell (i := 3) rfl
    have c4 := hbx1.cell (i := 4) rfl
    have hbw1 : Below w.heap.size w w1 := hb0.trans (hb1.mono (by simp))
    have hx1 := hx.below hS hbw1
    have hz1 := hbx1.lt
    clear hbx0
    replace hbx1 := Lib.hid hbx1
    go_wp2_with fail
    refine (hE.out w1 (fun b h => by have := hS b h; omega) hx1).mono ?_
    rintro e w2 ⟨rfl, hb2⟩
    go_wp2
    go_ret
    exact ⟨by rw [hr.out]; rfl, hbw1.trans (hb2.mono (by omega))⟩
end Go.Proofs.YteefodibpjgicaaGreat

namespace Go.Proofs.YteefodibpjgicaaGreat
open Go.RowKit Go.Shelf
attribute [local go_sem] Oper.semAt_some
structure It (S : Nat → Prop) (w0 : World) where
  x : Nd
  ah : Int
  va : Value
  vk : Value
  rep : RepV S w0 x va vk
  fit : Fit1 x
def It.args {S : Nat → Prop} {w0 : World} (t : It S w0) : Array Value := #[t.x.val t.va t.vk, .int .i64 t.ah]
abbrev It.pair {S : Nat → Prop} {w0 : World} (t : It S w0) : Nd × Int := (t.x, t.ah)
def Tells (S : Nat → Prop) (w0 : World) : Int → List Value → List Nd → List (It S w0) → Prop
  | _, xs, [], T => xs = [] ∧ T = []
  | a, xs, .mk k n ats t ks :: r, T => ∃ (i : It S w0) (zs ys : List Value) (T1 T2 : List (It S w0)), i.x = .mk k n ats t ks ∧ i.ah = a ∧ xs = i.x.cells i.va i.vk ++ ys ∧ Row S w0 5 i.vk ks.length zs ∧ T = i :: (T1 ++ T2) ∧ Tells S w0 0 zs ks T1 ∧ Tells S w0 k ys r T2
termination_by _ _ l _ => SizeOf.sizeOf l
theorem Tells.cons_iff {S : Nat → Prop} {w0 : World} {a : Int} {xs : List Value} {x : Nd} {r : List Nd} {T : List (It S w0)} :
    Tells S w0 a xs (x :: r) T ↔ ∃ (i : It S w0) (zs ys : List Value) (T1 T2 : List (It S w0)), i.x = x ∧ i.ah = a ∧ xs = i.x.cells i.va i.vk ++ ys ∧ Row S w0 5 i.vk x.kids.length zs ∧ T = i :: (T1 ++ T2) ∧ Tells S w0 0 zs x.kids T1 ∧ Tells S w0 x.kind ys r T2 := by
  cases x; rw [Tells]; rfl
def FitN : List Nd → Prop
  | [] => True
  | .mk k n a t ks :: r => Fit1 (.mk k n a t ks) ∧ FitN ks ∧ FitN r
termination_by l => SizeOf.sizeOf l
theorem fitN_nil : FitN [] := by rw [FitN]; trivial
theorem fitN_cons {x : Nd} {r : List Nd} : FitN (x :: r) ↔ Fit1 x ∧ FitN x.kids ∧ FitN r := by cases x; rw [FitN]; rfl
theorem tells_of {S : Nat → Prop} {w0 : World} (l : List Nd) : ∀ (a : Int) (xs : List Value), RepC S w0 xs l → FitN l → ∃ T, Tells S w0 a xs l T ∧ T.map It.pair = M3.seqN a l := by
  induction l using Nd.ind with
  | h0 => intro a xs h _; rw [RepC] at h; exact ⟨[], by rw [Tells]; exact ⟨h, rfl⟩, by rw [M3.seqN_nil]; rfl⟩
  | h1 k n ats t ks r ih1 ih2 =>
    intro a xs h hf
    obtain ⟨va, vk, ys, h1, h2, ⟨zs, h3, h4⟩, h5⟩ := RepC.cons_iff.1 h
    obtain ⟨f1, f2, f3⟩ := fitN_cons.1 hf
    obtain ⟨T1, t1, e1⟩ := ih1 0 zs h4 f2
    obtain ⟨T2, t2, e2⟩ := ih2 k ys h5 f3
    refine ⟨⟨.mk k n ats t ks, a, va, vk, ⟨h2, ⟨zs, h3, h4⟩⟩, f1⟩ :: (T1 ++ T2), Tells.cons_iff.2 ⟨_, zs, ys, T1, T2, rfl, rfl, by rw [h1]; rfl, h3, rfl, t1, t2⟩, ?_⟩
    rw [M3.seqN_cons, List.map_cons, List.map_append, e1, e2]
    rfl
theorem room_none {F : Fence} (hd : F.depth = none) (k : Nat) : F.room k := fun d h => by rw [hd] at h; cases h
theorem yield_deep {F : Fence} (hd : F.depth = none) {m : Nat} (m' : Nat) {P : Program} {l : Nat} {args : Array Value} {W : World} {R : Ending → World → Prop} (h : YieldAt F m P l args W R) : YieldAt F m' P l args W R := by
  obtain ⟨fn, tmps, assign, body, hy, hR⟩ := h
  exact ⟨fn, tmps, assign, body, hy, hR.1, fun c cs _ => hR.2 c cs (room_none hd _)⟩
theorem weight_mem {x : Nd} {l : List Nd} (h : x ∈ l) : M3.weight x.kids < M3.weight l := by
  induction l with
  | nil => cases h
  | cons y r ih =>
    rw [M3.weight_cons]
    rcases List.mem_cons.1 h with rfl | h
    · omega
    · have := ih h; omega
structure Kp5 (n₀ n₁ : Nat) (W W' : World) : Prop where
  low : Below n₀ W W'
  five : ∀ (b : Nat) (cs : Array Value) (t : TypeId), n₁ ≤ b → cs.size = 5 → W.heap[b]? = some (.cells cs t (0, 0)) → W'.heap[b]? = some (.cells cs t (0, 0))
section
variable {n₀ n₁ : Nat} {A B C : World}
theorem Kp5.refl (A : World) : Kp5 n₀ n₁ A A := ⟨Below.refl _ _, fun _ _ _ _ _ h => h⟩
theorem Kp5.trans (h : Kp5 n₀ n₁ A B) (k : Kp5 n₀ n₁ B C) : Kp5 n₀ n₁ A C := ⟨h.low.trans k.low, fun b cs t hb hc h1 => k.five b cs t hb hc (h.five b cs t hb hc h1)⟩
theorem Kp5.of_below (h : Below A.heap.size A B) (hn : n₀ ≤ A.heap.size) : Kp5 n₀ n₁ A B := ⟨h.mono hn, fun b _ _ _ _ h1 => (h.block b (Array.getElem?_eq_some_iff.1 h1).1).trans h1⟩
theorem Kp5.box (h : Kp5 n₀ n₁ A B) {g : Nat} {t : TypeId} {x : Nd} {va vk : Value} (hb : Box A g t (x.cells va vk)) (hg : n₁ ≤ g) : Box B g t (x.cells va vk) := h.five g _ t hg rfl hb
theorem kp5_b {w : World} (hn : n₀ ≤ w.heap.size) (W : World) (l : Nat) (o o' : Obj) (hl : w.heap.size ≤ l) (h : W.heap[l]? = some o) (hc : o.isCells = false) (hw : o.isWalk = false) : Kp5 n₀ n₁ W (W.putObj l o') :=
  ⟨belowK_b hn W l o o' hl h hc hw, fun b _ _ _ _ h1 => ((grownBy_putObj' W l o').block b (Array.getElem?_eq_some_iff.1 h1).1 (fun e => by cases e; rw [h1] at h; cases h; cases hc)).trans h1⟩
end
set_option maxRecDepth 100000 in
set_option maxHeartbeats 4000000 in
theorem domTell (F : Fence) (hd : F.depth = none) (h6 : F.fn 74) (hro : F.round = none) (S : Nat → Prop) (w0 : World) (l0 n₀ n₁ N : Nat) (hS : ∀ b, S b → b < n₀) (J Jx : List (It S w0) → World → Prop) (B0 : Nat) (hJ : AbidesFrom B0 J)
    (hY : ∀ m pre x W, J pre W → pre.length < N → YieldAt F m Tryz.prog l0 x.args W fun e W' =>
      (e = .returned (.bool true) ∧ J (pre ++ [x]) W' ∧ Kp5 n₀ n₁ W W') ∨ (e = .returned (.bool false) ∧ Jx (pre ++ [x]) W')) (wt : Nat) :
    ∀ (l : List Nd), M3.weight l < wt → ∀ (n : Nat) (v : Value) (zs : List Value) (T : List (It S w0)) (pre : List (It S w0)) (W : World), Row S w0 5 v l.length zs → Tells S w0 0 zs l T → Below n₀ w0 W → n₀ ≤ n₁ → n₁ ≤ W.heap.size → J pre W → pre.length + T.length ≤ N →
      CallsIn F n Tryz.prog 74 #[v, .func (.yield l0) #[] #[]] W fun e W' =>
        (e = .returned (.bool true) ∧ J (pre ++ T) W' ∧ Kp5 n₀ n₁ W W') ∨ (e = .returned (.bool false) ∧ ∃ q, q <+: T ∧ Jx (pre ++ q) W') := by
  induction wt with
  | zero => intro l h; omega
  | succ wt ih =>
    intro l hwt n v zs T pre W hrow ht hb hn0 hn1 hj hN
    obtain ⟨a, cap, rfl⟩ := hrow.slice
    obtain ⟨_, hlc, hcm⟩ := hrow.len
    have hdd : ∀ k : Nat, (F.depth.isSome = true → 1 ≤ k) := fun k h => by rw [hd] at h; cases h
    refine callsIn_of_wp Tryz.func74 rfl h6 ?_ hro
    simp only [Tryz.ntmps74, List.size_toArray, List.length_cons, List.length_nil, Nat.reduceAdd, Nat.reduceSub, Array.replicate_succ, Array.replicate_zero, List.push_toArray, List.append_toArray, List.nil_append, List.cons_append]
    gi_wp2
    gi_loopw [5, 10] (fun u5 u10 wr => ∃ (i : Nat) (ah : Int) (T1 T2 : List (It S w0)), i ≤ l.length ∧ u10 = .int .i64 (i : Int) ∧ u5 = .int .i64 ah ∧ T = T1 ++ T2 ∧ Tells S w0 ah (zs.drop (i * 5)) (l.drop i) T2 ∧ J (pre ++ T1) wr ∧ Kp5 n₀ n₁ W wr) (fun _ u10 _ => l.length - (intOf u10).toNat)
    case atStart => exact ⟨0, 0, [], T, by omega, rfl, rfl, rfl, ht, by simpa using hj, Kp5.refl _⟩
    case round =>
      obtain ⟨i, ah, T1, T2, hi, rfl, rfl, hT, htl, hJ1, hk1⟩ := hrel
      have hz1 := hk1.low.size
      by_cases hlt : i < l.length
      · have hdr : l.drop i = l[i] :: l.drop (i + 1) := List.drop_eq_getElem_cons hlt
        rw [hdr] at htl
        obtain ⟨it, zs', ys, Ta, Tb, e1, rfl, e2, hrk, rfl, hta, htb⟩ := Tells.cons_iff.1 htl
        have hwk := weight_mem (List.getElem_mem hlt)
        rw [← e1] at hwk hrk hta htb
        have hys : ys = zs.drop ((i + 1) * 5) := by
          rw [show (i + 1) * 5 = i * 5 + 5 by omega, ← List.drop_drop, e2]; rfl
        subst hys
        clear htl hdr e1
        rcases it with ⟨x, ah, va, vk, hrep, hfit⟩
        obtain ⟨a2, cap2, rfl⟩ := hrep.at_.slice
        obtain ⟨a3, cap3, rfl⟩ := hrep.kids.slice
        dsimp only at *
        have hbw := hb.trans hk1.low
        obtain ⟨_, a', cap', hsl, _, _, _, hcl⟩ := hrow.keep (w' := wr) (fun b h => (hb.trans hk1.low).block b (hS b h))
        cases hsl
        obtain ⟨b, off, rfl, hSb, hcl⟩ := hcl (by omega)
        have hz5 : ∀ j u, (x.cells (.slice a2 x.attrs.length cap2) (.slice a3 x.kids.length cap3))[j]? = some u → wr.cell? ⟨b, off + i * 5 + j, none⟩ = some u := by
          intro j u hu
          rw [Nat.add_assoc]
          refine hcl _ u ?_
          rw [← List.getElem?_drop, e2, List.getElem?_append_left (by have := (List.getElem?_eq_some_iff.1 hu).1; exact this)]
          exact hu
        have c0 := hz5 0 _ rfl
        have c1 := hz5 1 _ rfl
        have c2 := hz5 2 _ rfl
        have c3 := hz5 3 _ rfl
        have c4 := hz5 4 _ rfl
        simp only [Nat.add_zero] at c0
        have hbl := hS b hSb
        have hJa : J (pre ++ T1) (wr.alloc (.cells (x.cells (.slice a2 x.attrs.length cap2) (.slice a3 x.kids.length cap3)).toArray 41)) := hJ _ wr _ none hJ1 (World.grownBy_alloc _ _ _) (fun r e => by cases e)
        have hbx := Box.new wr 41 (x.cells (.slice a2 x.attrs.length cap2) (.slice a3 x.kids.length cap3))
        have hlen : (pre ++ T1).length < N := by rw [hT] at hN; simp at hN ⊢; omega
        have hyy := fun m => yield_deep hd m (hY m _ ⟨x, ah, _, _, hrep, hfit⟩ _ hJa hlen)
        obtain ⟨fn, tmps, assign, body, hy, hR⟩ := hyy (n - 1)
        dsimp only [It.args, Nd.val] at hy
        have hihk := ih x.kids (by omega) (n - 1) (.slice a3 x.kids.length cap3) zs' Ta
        have hkc : Kp5 n₀ n₁ W (wr.alloc (.cells (x.cells (.slice a2 x.attrs.length cap2) (.slice a3 x.kids.length cap3)).toArray 41)) := hk1.trans (Kp5.of_below ((Below.refl _ _).alloc (Nat.le_refl _) _) (by omega))
        replace hihk := Lib.hid hihk
        replace hz5 := Lib.hid hz5
        replace hcl := Lib.hid hcl
        replace hT := Lib.hid hT
        replace e2 := Lib.hid e2
        clear hyy
        gi_wp2_with (fail)
        refine hR.mono ?_
        clear hR
        rintro e W2 (⟨rfl, hJ2, hk2⟩ | ⟨rfl, hx2⟩)
        · have hb2 := hk2.box hbx (by omega)
          have d4 := hb2.cell (i := 4) rfl
          have hJ2' := hJ2
          have hz2 := hk2.low.size
          simp only [World.size_alloc] at hz2
          have hih2 := hihk.out (pre ++ T1 ++ [⟨x, ah, _, _, hrep, hfit⟩]) W2 hrk hta (hb.trans (hkc.trans hk2).low) hn0 (by omega) hJ2 (by have := hT.out; rw [this] at hN; simp at hN ⊢; omega)
          replace hih2 := Lib.hid hih2
          clear hihk
          gi_wp2_with (fail)
          refine hih2.out.mono ?_
          rintro e W3 (⟨rfl, hJ3, hk3⟩ | ⟨rfl, q, hq, hx3⟩)
          · have hb3 := hk3.box hb2 (by omega)
            have f0 := hb3.cell (i := 0) rfl
            clear hih2 d4
            gi_wp2_with (fail)
            go_roundw
            case rel => exact ⟨i + 1, x.kind, T1 ++ (⟨x, ah, _, _, hrep, hfit⟩ :: Ta), Tb, by omega, by go_num, rfl, by rw [hT.out]; simp, htb, by simpa [List.append_assoc] using hJ3, (hkc.trans hk2).trans hk3⟩
            case measure => simp [intOf]; omega
          · gi_wp2_with (fail)
            go_ret
            refine .inr ⟨rfl, T1 ++ ⟨x, ah, _, _, hrep, hfit⟩ :: q, ?_, by simpa [List.append_assoc] using hx3⟩
            obtain ⟨q2, rfl⟩ := hq
            exact ⟨q2 ++ Tb, by rw [hT.out]; simp⟩
        · first
          | (refine ⟨fun _ h => (by cases h), ?_⟩; gi_wp2_with (fail))
          | gi_wp2_with (fail)
          go_ret
          refine .inr ⟨rfl, T1 ++ [⟨x, ah, _, _, hrep, hfit⟩], ?_, by simpa [List.append_assoc] using hx2⟩
          exact ⟨Ta ++ Tb, by rw [hT.out]; simp⟩
      · have hil : i = l.length := by omega
        subst hil
        rw [List.drop_length, Tells] at htl
        obtain ⟨_, rfl⟩ := htl
        have hT2 : T = T1 := by rw [hT]; simp
        clear hT
        replace hT2 := Lib.hid hT2
        gi_wp2_with (fail)
        go_ret
        exact .inl ⟨rfl, by rw [hT2.out]; exact hJ1, hk1⟩
set_option maxHeartbeats 1000000 in
theorem domEach1 (F : Fence) (hd : F.depth = none) (n : Nat) (h5 : F.fn 73) (h6 : F.fn 74) (hro : F.round = none) (S : Nat → Prop) (w0 : World) (l0 Bt n₀ n₁ : Nat) (hS : ∀ b, S b → b < n₀) (v : Value) (l : List Nd) (zs : List Value) (T : List (It S w0)) (J Jx : List (It S w0) → World → Prop) (B0 : Nat) (hJ : AbidesFrom B0 J)
    (hY : ∀ pre x W, J pre W → pre.length < T.length → YieldAt F (n - 1) Tryz.prog l0 x.args W fun e W' =>
      (e = .returned (.bool true) ∧ J (pre ++ [x]) W' ∧ Kp5 n₀ n₁ W W') ∨ (e = .returned (.bool false) ∧ Jx (pre ++ [x]) W'))
    (W : World) (hBt : W.cell? ⟨Bt, 0, none⟩ = some v) (hrow : Row S w0 5 v l.length zs) (ht : Tells S w0 0 zs l T) (hb : Below n₀ w0 W) (hn0 : n₀ ≤ n₁) (hn1 : n₁ ≤ W.heap.size) (h0 : J [] W) :
    CallsIn F n Tryz.prog 73 #[.func (.yield l0) #[] #[], .pointer (some ⟨Bt, 0, none⟩)] W fun e W' => (∃ v, e = .returned v) ∧
      ((∃ ys, ys = T ∧ J ys W') ∨ (∃ pre, pre <+: T ∧ Jx pre W')) := by
  have hdd : ∀ k : Nat, (F.depth.isSome = true → 1 ≤ k) := fun k h => by rw [hd] at h; cases h
  have hp := domTell F hd h6 hro S w0 l0 n₀ n₁ T.length hS J Jx B0 hJ (fun m pre x W hj hl => yield_deep hd m (hY pre x W hj hl)) (M3.weight l + 1) l (by omega) (n - 1) v zs T [] W hrow ht hb hn0 hn1 h0 (by simp)
  refine callsIn_of_wp Tryz.func73 rfl h5 ?_ hro
  simp only [Tryz.ntmps73, List.size_toArray, List.length_cons, List.length_nil, Nat.reduceAdd, Nat.reduceSub, Array.replicate_succ, Array.replicate_zero, List.push_toArray, List.append_toArray, List.nil_append, List.cons_append]
  replace hp := Lib.hid hp
  gi_wp2_with (fail)
  refine hp.out.mono ?_
  rintro e W1 (⟨rfl, hJ1, _⟩ | ⟨rfl, q, hq, hx⟩)
  · gi_wp2_with (fail)
    go_end0
    exact ⟨⟨_, rfl⟩, .inl ⟨_, rfl, by simpa using hJ1⟩⟩
  · gi_wp2_with (fail)
    go_end0
    exact ⟨⟨_, rfl⟩, .inr ⟨q, hq, by simpa using hx⟩⟩
set_option maxHeartbeats 1000000 in
theorem domEach (F : Fence) (n : Nat) (h4 : F.fn 53) (hro : F.round = none) (a : Option Addr) (len cap : Nat) (w : World) :
    CallsIn F n Tryz.prog 53 #[.slice a len cap] w fun e w' => e = .returned (.func (.func 73) #[] #[.pointer (some ⟨w.heap.size, 0, none⟩)]) ∧ w.alloc (.cells #[.slice a len cap] 25) = w' := by
  refine callsIn_of_wp Tryz.func53 rfl h4 ?_ hro
  simp only [Tryz.ntmps53, List.size_toArray, List.length_cons, List.length_nil, Nat.reduceAdd, Nat.reduceSub, Array.replicate_succ, Array.replicate_zero, List.push_toArray, List.append_toArray, List.nil_append, List.cons_append]
  gi_wp2
  go_ret
  exact ⟨rfl, rfl⟩
theorem eachStops (F : Fence) (hd : F.depth = none) (n : Nat) (h5 : F.fn 73) (h6 : F.fn 74) (hro : F.round = none) (S : Nat → Prop) (w0 : World) (Bt n₀ n₁ : Nat) (hS : ∀ b, S b → b < n₀) (v : Value) (l : List Nd) (zs : List Value) (T : List (It S w0)) (w : World)
    (hBt : w.cell? ⟨Bt, 0, none⟩ = some v) (hrow : Row S w0 5 v l.length zs) (ht : Tells S w0 0 zs l T) (hb : Below n₀ w0 w) (hn0 : n₀ ≤ n₁) (hn1 : n₁ ≤ w.heap.size) :
    SeqStopsK F n Tryz.prog 73 #[.pointer (some ⟨Bt, 0, none⟩)] (It.args (S := S) (w0 := w0)) (Kp5 n₀ n₁) (fun ys => ys = T) (fun pre => pre <+: T) T.length w := fun l0 J Jx W hW hJ _ hY h0 =>
  domEach1 F hd n h5 h6 hro S w0 l0 Bt n₀ n₁ hS v l zs T J Jx W.heap.size hJ hY W ((hW.cell (p := ⟨Bt, 0, none⟩) (World.block_lt_of_cell? w _ hBt)).trans hBt) hrow ht (hb.trans (hW.mono (by omega))) hn0 (Nat.le_trans hn1 hW.size) h0
end Go.Proofs.YteefodibpjgicaaGreat

namespace Go.Proofs.YteefodibpjgicaaGreat
open Go.RowKit Go.Shelf
attribute [local go_sem] Oper.semAt_some
theorem kf_of_below {B : Nat} {W W' : World} (h : Below W.heap.size W W') : KeepsFrom B W W' := ⟨h.size, fun k _ _ hk _ => (h.block k (Array.getElem?_eq_some_iff.1 hk).1).trans hk⟩
theorem ownFrom_size {β : Type} (B k : Nat) : OwnFrom B (fun (_ : β) W => k ≤ W.heap.size) := fun _ _ _ _ hs hg _ => Nat.le_trans hs hg.size
theorem box_own {X Y : World} {row : Option Nat} {g : Nat} {t : TypeId} {cs : List Value} (h : Box X g t cs) (hg : X.grownBy Y row) (hr : ∀ r, row = some r → ∃ o : Obj, X.heap[r]? = some o ∧ o.isCells = false) : Box Y g t cs :=
  h.keep (hg.block g h.lt (fun e => by obtain ⟨o, ho, hc⟩ := hr g e.symm; rw [show X.heap[g]? = _ from h] at ho; cases ho; cases hc))
theorem It.shapes {S : Nat → Prop} {w0 : World} (x : It S w0) : (∃ a c, x.va = .slice a x.x.attrs.length c) ∧ ∃ a c, x.vk = .slice a x.x.kids.length c := ⟨x.rep.at_.slice, x.rep.kids.slice⟩
end Go.Proofs.YteefodibpjgicaaGreat

namespace Go.Proofs.YteefodibpjgicaaGreat
open Go.RowKit Go.Shelf
attribute [local go_sem] Oper.semAt_some
theorem firstE_prefix {a b : List (Nd × Int)} (h : a <+: b) (hn : M3.firstE a ≠ 0) : M3.firstE b = M3.firstE a := by
  obtain ⟨c, rfl⟩ := h
  rw [M3.firstE_append, if_pos hn]
theorem firstE_snoc (a : List (Nd × Int)) (p : Nd × Int) (h : M3.firstE a = 0) : M3.firstE (a ++ [p]) = M3.oneE p.1 (p.2 == 2) := by
  rw [M3.firstE_append, if_neg (by simpa using h), M3.firstE, M3.firstE]
  split
  · rfl
  · rename_i h; simp at h; exact h.symm
set_option maxRecDepth 100000 in
set_option maxHeartbeats 4000000 in
theorem domMay_in (n : Nat) (hn : 4 ≤ n) (S : Nat → Prop) (v : Value) (l : List Nd) (w : World) (hS : ∀ b, S b → b < w.heap.size) (hr : RepN S w v l) (hf : FitN l) :
    CallsIn Fence.wide n Tryz.prog 36 #[v] w fun e W' => e = .returned (.int .i64 (M3.mayE false l)) ∧ Below w.heap.size w W' := by
  obtain ⟨zs, hrow, hrep⟩ := hr
  obtain ⟨T, hT, hTm⟩ := tells_of (S := S) (w0 := w) l 0 zs hrep hf
  obtain ⟨a, cap, rfl⟩ := hrow.slice
  have hfirst : Hid (M3.firstE (T.map It.pair) = M3.mayE false l) := by
    show _ = _
    rw [hTm, M3.may_eq]; rfl
  clear hTm
  have hro : Fence.wide.round = none := rfl
  have h1 : 1 ≤ n := by omega
  refine callsIn_of_wp_marks Tryz.func36 rfl trivial ?_ hro
  simp only [Tryz.ntmps36, List.size_toArray, List.length_cons, List.length_nil, Nat.reduceAdd, Nat.reduceSub, Array.replicate_succ, Array.replicate_zero, List.push_toArray, List.append_toArray, List.nil_append, List.cons_append]
  gi_wp2_with (refine ⟨trivial, ?_⟩; gi_at_call 53; refine (domEach Fence.wide (n - 1) trivial hro _ _ _ _).mono ?_; rintro e w' ⟨rfl, rfl⟩)
  have bW := (Boxed.new w 32 (.int .i64 0)).alloc (.cells #[.slice a l.length cap] 25)
  have bL := Boxed.new (w.alloc (.cells #[.int .i64 0] 32)) 25 (.slice a l.length cap)
  have hB0 : Below w.heap.size w ((w.alloc (.cells #[.int .i64 0] 32)).alloc (.cells #[.slice a l.length cap] 25)) := ((Below.refl _ w).alloc (Nat.le_refl _) _).alloc (by simp) _
  have hsz : ((w.alloc (.cells #[.int .i64 0] 32)).alloc (.cells #[.slice a l.length cap] 25)).heap.size = w.heap.size + 2 := by simp
  simp only [World.size_alloc] at bL
  obtain ⟨W0, hW0⟩ : ∃ W0, (w.alloc (.cells #[.int .i64 0] 32)).alloc (.cells #[.slice a l.length cap] 25) = W0 := ⟨_, rfl⟩
  rw [hW0] at bW bL hB0 hsz ⊢
  clear hW0
  refine wpIn_rangeFunc_ownH hro h1 (gf := 73) (lb := #[.pointer (some ⟨w.heap.size + 1, 0, none⟩)]) rfl trivial (enters_of Tryz.func73 (by kernel_rfl) rfl)
    (eachStops Fence.wide rfl (n - 1) trivial trivial hro S w (w.heap.size + 1) w.heap.size (w.heap.size + 2) hS _ l zs T W0 bL.cell hrow hT hB0 (by omega) (by omega))
    (fun h k => h.trans k) (kp5_b (by omega)) (Below.refl _ _) (fun _ => rfl)
    (fun pre W => (Boxed W w.heap.size 32 (.int .i64 0) ∧ Below w.heap.size w W ∧ w.heap.size + 2 ≤ W.heap.size) ∧ M3.firstE (pre.map It.pair) = 0)
    (fun c pre W => (Boxed W w.heap.size 32 (.int .i64 (M3.firstE (pre.map It.pair))) ∧ Below w.heap.size w W) ∧ (c = .ret ∧ M3.firstE (pre.map It.pair) ≠ 0))
    (OwnFrom.and (OwnFrom.and (Own.from (boxed_own _ _ (fun _ => .int .i64 0)) _) (OwnFrom.and (ownFrom_below (Nat.le_refl _) (by omega)) (ownFrom_size _ _))) (ownFrom_pure _ _))
    (fun c => OwnFrom.and (OwnFrom.and (Own.from (boxed_own _ _ (fun (s : List (It S w)) => .int .i64 (M3.firstE (s.map It.pair)))) _) (ownFrom_below (Nat.le_refl _) (by omega))) (ownFrom_pure _ _))
    ⟨⟨bW, hB0, by omega⟩, rfl⟩
    (fun x a' W => ∃ Bx, w.heap.size + 2 ≤ Bx ∧ Box W Bx 41 (x.x.cells x.va x.vk) ∧ a' = { tmps := #[.slice a l.length cap, undef, .pointer (some ⟨w.heap.size, 0, none⟩), .pointer (some ⟨Bx, 0, none⟩), .int .i64 x.ah, undef, .slice a l.length cap, .func (.func 73) #[] #[.pointer (some ⟨w.heap.size + 1, 0, none⟩)], x.x.val x.va x.vk, .int .i64 x.ah, undef, undef, undef, undef, undef, undef], defers := [] })
    (fun x a' _ X Y row hs hg hr => by obtain ⟨Bx, h1, h2, h3⟩ := hs; exact ⟨Bx, h1, box_own h2 hg (fun r e => (hr r e).2), h3⟩)
    ?assign ?body ?done ?stop
  case assign =>
    rintro l0 pre x W K ⟨⟨bW1, hB1, hl1⟩, hp⟩ hK
    obtain ⟨⟨a1, c1, h1⟩, ⟨a2, c2, h2⟩⟩ := x.shapes
    have hx : It.args x = #[x.x.val x.va x.vk, .int .i64 x.ah] := rfl
    rw [hx]
    replace hK := Lib.hid hK
    replace hp := Lib.hid hp
    gi_wp2
    have hbox := Box.new W 41 (x.x.cells x.va x.vk)
    rw [h1, h2] at hbox
    exact hK.out _ _ (kf_of_below ((Below.refl _ W).alloc (Nat.le_refl _) _)) (Kp5.of_below ((Below.refl _ W).alloc (Nat.le_refl _) _) hB1.size) ⟨⟨bW1.alloc _, hB1.alloc hB1.size _, by simp; omega⟩, hp.out⟩ ⟨W.heap.size, hl1, by rw [h1, h2]; exact hbox, by rw [h1, h2]⟩
  case body =>
    rintro l0 pre x a' W hl ⟨r, hr⟩ ⟨⟨bW1, hB1, hl1⟩, hp⟩ ⟨Bx, hBx, bX, rfl⟩ hlt
    have hrep1 := x.rep.below hS hB1
    have hft := x.fit
    have hsn := firstE_snoc (pre.map It.pair) (It.pair x) hp
    have hmp : (pre ++ [x]).map It.pair = pre.map It.pair ++ [It.pair x] := by simp
    rw [← hmp] at hsn
    replace hsn := Lib.hid hsn
    obtain ⟨⟨a1, c1, h1⟩, ⟨a2, c2, h2⟩⟩ := x.shapes
    have hF := Lib.hid (fun W hS hr => domFault S x.x x.va x.vk x.ah W hS hr hft)
    rw [h1, h2] at bX hF hrep1
    replace h1 := Lib.hid h1
    replace h2 := Lib.hid h2
    have cX0 := bX.cell (i := 0) rfl
    have cX1 := bX.cell (i := 1) rfl
    have cX2 := bX.cell (i := 2) rfl
    have cX3 := bX.cell (i := 3) rfl
    have cX4 := bX.cell (i := 4) rfl
    have hz1 := hB1.size
    clear hp hmp
    gi_wp2_with (fail)
    refine ⟨trivial, (fun h => by cases h), ?_⟩
    refine (CallsIn.inRound l0 (callsIn_wide.2 (hF.out W (fun b h => by have := hS b h; omega) hrep1))).mono ?_
    rintro e w1 ⟨rfl, hb1⟩
    have bW2 : Boxed w1 w.heap.size 32 (.int .i64 0) := (hb1.block _ bW1.lt).trans bW1
    have cW := bW2.cell
    have fW := bW2.frozen
    have hB2 := hB1.trans (hb1.mono hz1)
    have hl2 : w.heap.size + 2 ≤ w1.heap.size := by have := hb1.size; omega
    have hkf := kf_of_below (B := W0.heap.size) hb1
    have hkp := Kp5.of_below (n₁ := w.heap.size + 2) hb1 hz1
    change Hid (M3.firstE ((pre ++ [x]).map It.pair) = M3.oneE x.x (x.ah == 2)) at hsn
    generalize M3.oneE x.x (x.ah == 2) = z at *
    by_cases hz : z = 0
    · subst hz
      gi_wp2_with (fail)
      exact ⟨hkf, hkp, ⟨bW2, hB2, hl2⟩, hsn.out⟩
    · have hzb : (z == 0) = false := by simpa using hz
      gi_wp2_with (fail)
      exact ⟨hkf.trans ((KeepsOthers.setCell _ _ _).from _), ⟨by rw [hsn.out]; exact bW2.set _, hB2.setCell (p := ⟨w.heap.size, 0, none⟩) (Nat.le_refl _) _⟩, rfl, by rw [hsn.out]; exact hz⟩
  case done =>
    rintro D ys W hD rfl ⟨⟨bW1, hB1, hl1⟩, hp⟩ hK
    have hp2 := Lib.hid (hfirst.out.symm.trans hp)
    have hcr := bW1.cell
    have hfr := bW1.frozen
    clear hp
    gi_wp2
    have hK' := (KeepsOthers.setCell W ⟨w.heap.size, 0, none⟩ (.int .i64 0)).same D _ hK rfl
    refine ⟨by simp, .inl ⟨_, _, rfl, run_takeDeferred hK', ?_⟩⟩
    have hc5 := cell_kept (World.cell?_setCell_same' W ⟨w.heap.size, 0, none⟩ (.int .i64 0) (by rw [hcr]; rfl)) (grownBy_putObj' _ D (.deferred none)) (fun r e => by cases e; exact ⟨_, hK', rfl⟩)
    refine ⟨.int .i64 0, ?_, by rw [hp2.out], (hB1.setCell (p := ⟨w.heap.size, 0, none⟩) (Nat.le_refl _) _).trans (belowK_b (w := w) (Nat.le_refl _) _ D _ _ (by omega) hK' rfl rfl)⟩
    simp [results, Tryz.f36, go_sem, hc5]
  case stop =>
    rintro D c pre W hD hpre ⟨⟨bW1, hB1⟩, rfl, hne⟩ hK
    have hfe : M3.firstE (pre.map It.pair) = M3.mayE false l := by
      rw [← hfirst.out]
      exact (firstE_prefix (hpre.map It.pair) hne).symm
    rw [hfe] at bW1
    have hcr := bW1.cell
    clear hfe hne
    gi_wp2
    refine ⟨by simp, .inl ⟨_, _, rfl, run_takeDeferred hK, ?_⟩⟩
    have hc5 := cell_kept hcr (grownBy_putObj' _ D (.deferred none)) (fun r e => by cases e; exact ⟨_, hK, rfl⟩)
    refine ⟨.int .i64 (M3.mayE false l), ?_, rfl, hB1.trans (belowK_b (w := w) (Nat.le_refl _) W D _ _ (by omega) hK rfl rfl)⟩
    simp [results, Tryz.f36, go_sem, hc5]
theorem domMay (S : Nat → Prop) (v : Value) (l : List Nd) (w : World) (hS : ∀ b, S b → b < w.heap.size) (hr : RepN S w v l) (hf : FitN l) :
    Calls Tryz.prog 36 #[v] w fun e W' => e = .returned (.int .i64 (M3.mayE false l)) ∧ Below w.heap.size w W' :=
  callsIn_wide.1 (domMay_in 4 (by omega) S v l w hS hr hf)
end Go.Proofs.YteefodibpjgicaaGreat

namespace Go.Proofs.YteefodibpjgicaaGreat
open Go.RowKit
theorem infoA : (Tryz.prog.info? 43).map (fun i => (i.zero, i.size, i.bytes)) = some (some (.agg #[.string ⟨#[]⟩, .string ⟨#[]⟩]), 2, 32) := by kernel_rfl
theorem infoN : (Tryz.prog.info? 41).map (fun i => (i.zero, i.size, i.bytes)) = some (some (.agg #[.int .i64 0, .string ⟨#[]⟩, .slice none 0 0, .string ⟨#[]⟩, .slice none 0 0]), 5, 88) := by kernel_rfl
theorem own_slice {w : World} {B : Nat} {e : TypeId} {k n : Nat} {v : Value} {xs : List Value} (h : w.ownsRow B e k v n xs) : ∃ a c, v = .slice a n c := by
  rcases h.2 with ⟨rfl, rfl⟩ | ⟨g, cap, _, rfl, _⟩
  · exact ⟨_, _, rfl⟩
  · exact ⟨_, _, rfl⟩
theorem own_keep {w w' : World} {B : Nat} {e : TypeId} {k n : Nat} {v : Value} {xs : List Value} (h : w.ownsRow B e k v n xs) (hk : ∀ g, v.ownBlock = some g → w'.heap[g]? = w.heap[g]?) : w'.ownsRow B e k v n xs := by
  refine ⟨h.1, ?_⟩
  rcases h.2 with hn | ⟨g, cap, cur, rfl, hb, hg, rest⟩
  · exact .inl hn
  · exact .inr ⟨g, cap, cur, rfl, hb, (hk g rfl).trans hg, rest⟩
theorem own_base {w : World} {B B' : Nat} {e : TypeId} {k n : Nat} {v : Value} {xs : List Value} (h : w.ownsRow B e k v n xs) (hb : ∀ g, v.ownBlock = some g → B' ≤ g) : w.ownsRow B' e k v n xs := by
  refine ⟨h.1, ?_⟩
  rcases h.2 with hn | ⟨g, cap, cur, rfl, _, rest⟩
  · exact .inl hn
  · exact .inr ⟨g, cap, cur, rfl, hb g rfl, rest⟩
end Go.Proofs.YteefodibpjgicaaGreat

namespace Go.Proofs.YteefodibpjgicaaGreat
open Go.RowKit Go.ChangeShapes Go.WideShapes
section
variable {H : Type} {enc : TypeId × Value → H} {w : World} {base : Nat} {spare : Nat → Bool} {held : Bool}
structure NV where
  x : Nd
  va : Value
  vk : Value
end
end Go.Proofs.YteefodibpjgicaaGreat

namespace Go.Proofs.YteefodibpjgicaaGreat
open Go.RowKit
def OwnC (w : World) : List Value → List Nd → List Nat → Prop
  | xs, [], F => xs = [] ∧ F = []
  | xs, .mk k n ats t ks :: r, F => ∃ va vk zs ys F1 F2, xs = .int .i64 k :: .string n :: va :: .string t :: vk :: ys ∧ w.ownsRow 0 43 2 va ats.length (cellsA ats) ∧ w.ownsRow 0 41 5 vk ks.length zs ∧
      F = (va.ownBlock.toList ++ (vk.ownBlock.toList ++ F1)) ++ F2 ∧ OwnC w zs ks F1 ∧ OwnC w ys r F2
termination_by _ l _ => SizeOf.sizeOf l
theorem OwnC.cons_iff {w : World} {xs : List Value} {x : Nd} {r : List Nd} {F : List Nat} :
    OwnC w xs (x :: r) F ↔ ∃ va vk zs ys F1 F2, xs = x.cells va vk ++ ys ∧ w.ownsRow 0 43 2 va x.attrs.length (cellsA x.attrs) ∧ w.ownsRow 0 41 5 vk x.kids.length zs ∧
      F = (va.ownBlock.toList ++ (vk.ownBlock.toList ++ F1)) ++ F2 ∧ OwnC w zs x.kids F1 ∧ OwnC w ys r F2 := by cases x; rw [OwnC]; rfl
theorem OwnC.nil (w : World) : OwnC w [] [] [] := by rw [OwnC]; exact ⟨rfl, rfl⟩
theorem OwnC.keep {w w' : World} (l : List Nd) : ∀ (xs : List Value) (F : List Nat), (∀ b ∈ F, w'.heap[b]? = w.heap[b]?) → OwnC w xs l F → OwnC w' xs l F := by
  induction l using Nd.ind with
  | h0 => intro xs F _ h; rw [OwnC] at h ⊢; exact h
  | h1 k n ats t ks r ih1 ih2 =>
    intro xs F hk h
    obtain ⟨va, vk, zs, ys, F1, F2, h1, h2, h3, rfl, h5, h6⟩ := OwnC.cons_iff.1 h
    refine OwnC.cons_iff.2 ⟨va, vk, zs, ys, F1, F2, h1, own_keep h2 (fun g hg => hk g (by simp [hg])), own_keep h3 (fun g hg => hk g (by simp [hg])), rfl, ih1 _ _ (fun b hb => hk b (by simp [hb])) h5, ih2 _ _ (fun b hb => hk b (by simp [hb])) h6⟩
theorem OwnC.append {w : World} {m : List Nd} {ys : List Value} {G : List Nat} (h : OwnC w ys m G) (l : List Nd) : ∀ (xs : List Value) (F : List Nat), OwnC w xs l F → OwnC w (xs ++ ys) (l ++ m) (F ++ G) := by
  induction l using Nd.ind with
  | h0 => intro xs F h'; rw [OwnC] at h'; obtain ⟨rfl, rfl⟩ := h'; exact h
  | h1 k n ats t ks r _ ih2 =>
    intro xs F h'
    obtain ⟨va, vk, zs, ys', F1, F2, rfl, h2, h3, rfl, h5, h6⟩ := OwnC.cons_iff.1 h'
    exact OwnC.cons_iff.2 ⟨va, vk, zs, ys' ++ ys, F1, F2 ++ G, by rw [List.append_assoc], h2, h3, by simp, h5, ih2 _ _ h6⟩
theorem OwnC.rep {w : World} (l : List Nd) : ∀ (xs : List Value) (F : List Nat), OwnC w xs l F → RepC (· ∈ F) w xs l := by
  induction l using Nd.ind with
  | h0 => intro xs F h; rw [OwnC] at h; rw [RepC]; exact h.1
  | h1 k n ats t ks r ih1 ih2 =>
    intro xs F h
    obtain ⟨va, vk, zs, ys, F1, F2, rfl, h2, h3, rfl, h5, h6⟩ := OwnC.cons_iff.1 h
    refine RepC.cons_iff.2 ⟨va, vk, ys, rfl, Row.own h2 (fun g hg => by simp [hg]), ⟨zs, Row.own h3 (fun g hg => by simp [hg]), RepC.mono (fun b hb => by simp [hb]) _ _ (ih1 _ _ h5)⟩, RepC.mono (fun b hb => by simp [hb]) _ _ (ih2 _ _ h6)⟩
def Span (lo hi : Nat) (F : List Nat) : Prop := F.Nodup ∧ ∀ b ∈ F, lo ≤ b ∧ b < hi
theorem Span.nil (lo hi : Nat) : Span lo hi [] := ⟨List.nodup_nil, fun b h => by cases h⟩
theorem Span.append {lo mid hi : Nat} {F G : List Nat} (hF : Span lo mid F) (hG : Span mid hi G) (h1 : lo ≤ mid) (h2 : mid ≤ hi) : Span lo hi (F ++ G) := by
  refine ⟨List.nodup_append.2 ⟨hF.1, hG.1, fun a ha b hb e => by have h3 := (hF.2 a ha).2; have h4 := (hG.2 b hb).1; omega⟩, fun b hb => ?_⟩
  rcases List.mem_append.1 hb with hb | hb
  · have := hF.2 b hb; omega
  · have := hG.2 b hb; omega
theorem Span.mono {lo lo' hi hi' : Nat} {F : List Nat} (hF : Span lo hi F) (h1 : lo' ≤ lo) (h2 : hi ≤ hi') : Span lo' hi' F := ⟨hF.1, fun b hb => by have := hF.2 b hb; omega⟩
theorem Span.own {w : World} {B : Nat} {e : TypeId} {k n : Nat} {v : Value} {xs : List Value} (h : w.ownsRow B e k v n xs) : Span B w.heap.size v.ownBlock.toList := by
  refine ⟨by cases v.ownBlock <;> simp, fun b hb => ?_⟩
  have : v.ownBlock = some b := by cases hv : v.ownBlock <;> simp [hv] at hb ⊢; exact hb.symm
  exact h.lt b this
def Fresh (w' : World) (B : Nat) (v : Value) (l : List Nd) : Prop := ∃ zs F, w'.ownsRow B 41 5 v l.length zs ∧ OwnC w' zs l F ∧ Span B w'.heap.size (v.ownBlock.toList ++ F)
theorem Fresh.rep {w' : World} {B : Nat} {v : Value} {l : List Nd} (h : Fresh w' B v l) : RepN (fun b => B ≤ b ∧ b < w'.heap.size) w' v l := by
  obtain ⟨zs, F, h1, h2, h3⟩ := h
  exact ⟨zs, Row.own h1 (fun g hg => h1.lt g hg), RepC.mono (fun b hb => h3.2 b (by simp [hb])) _ _ (OwnC.rep _ _ _ h2)⟩
def FreshPost (l : List Nd) (w : World) (e : Ending) (w' : World) : Prop := ∃ v', e = .returned v' ∧ Fresh w' w.heap.size v' l ∧ Below w.heap.size w w'
def FreshV (x : Nd) (w : World) (e : Ending) (w' : World) : Prop := ∃ va vk zs F, e = .returned (x.val va vk) ∧ w'.ownsRow w.heap.size 43 2 va x.attrs.length (cellsA x.attrs) ∧ w'.ownsRow w.heap.size 41 5 vk x.kids.length zs ∧ OwnC w' zs x.kids F ∧ Span w.heap.size w'.heap.size (va.ownBlock.toList ++ (vk.ownBlock.toList ++ F)) ∧ Below w.heap.size w w'
end Go.Proofs.YteefodibpjgicaaGreat

namespace Go.Proofs.YteefodibpjgicaaGreat
open Go.RowKit
theorem wpList_appRow {P : Program} {ops : Array Oper} {rest : List Oper} {o : Oper} {a : Act} {Q : Exit → Act → World → Prop} (w1 : World) (hgd : o.guard = none) (s y : Operand) (t e : TypeId)
    (ho : o.op = .call { callee := .builtin .append, args := #[s, y], argTypes := #[t, t] }) (base k : Nat) {z : Value} {bytes : Nat} (ht : P.underlying t = some (.slice e))
    (hinfo : (P.info? e).map (fun i => (i.zero, i.size, i.bytes)) = some (some z, k, bytes)) (hz : z.cells.size = k) (hk : 0 < k)
    (v : Value) (n : Nat) (xs : List Value) (hs : a.eval s = v) (hown : w1.ownsRow base e k v n xs) (S : Nat → Prop) (yv : Value) (m : Nat) (ys : List Value) (hy : a.eval y = yv) (hx : Row S w1 k yv m ys) (h1 : ∀ u ∈ ys, u.oneCell' = true)
    (h63 : n + m ≤ 9223372036854775807) (hbytes : (n + m) * bytes ≤ 140737488355328) (hbase : base ≤ w1.heap.size)
    (h : ∀ v' w2, w2.ownsRow base e k v' (n + m) (xs ++ ys) → w1.grownBy w2 v.ownBlock → wpList P ops Q rest (a.put o.dst v') w2) : wpList P ops Q (o :: rest) a w1 := by
  obtain ⟨i, hi, hz0, hz1, hz2⟩ := info_parts hinfo
  obtain ⟨h0, ad, cap, rfl, h2, h3, h4, h5⟩ := hx
  cases ad with
  | none =>
    have h6 := h4 rfl
    obtain rfl : m = 0 := by omega
    obtain rfl : ys = [] := List.eq_nil_of_length_eq_zero (by simpa using h0)
    subst h6
    refine wpList_append_own_none hgd s y t ho base e i k ht hi v n xs hs hown hy ?_
    exact h v w1 (by simpa using hown) ⟨rfl, rfl, rfl, Nat.le_refl _, fun _ _ _ => rfl⟩
  | some ad =>
    refine wpList_append_own _ hgd s y t ho base e i z k bytes ht hi hz0 hz1 hz2 hz hk v n xs hs hown ad m cap ys hy h0 ?_ h1 (by unfold maxLen; omega) hbytes hbase ?_
    · intro j u hj
      have hm : 0 < m := by
        rcases Nat.eq_zero_or_pos m with h | h
        · subst h
          rw [Nat.zero_mul] at h0
          rw [List.eq_nil_of_length_eq_zero h0] at hj
          simp at hj
        · exact h
      obtain ⟨b, off, h6, _, h7⟩ := h5 hm
      cases h6
      rw [add_plain']
      exact h7 j u hj
    · intro v' w2 h8 h9 _
      exact h v' w2 h8 h9
theorem below_none {W w1 : World} {v : Value} (h : W.grownBy w1 v.ownBlock) (hv : v.ownBlock = none := by rfl) : Below W.heap.size W w1 := by
  rw [hv] at h
  exact ⟨h.os, h.tape, h.output, h.size, fun k hk => h.block k hk (by simp)⟩
set_option maxHeartbeats 2000000 in
set_option maxRecDepth 100000 in
theorem domClone1 (S : Nat → Prop) (x : Nd) (va vk : Value) (w : World) (hS : ∀ b, S b → b < w.heap.size) (hx : RepV S w x va vk) (hw : x.attrs.length ≤ 1000000)
    (ih : ∀ W : World, (∀ b, S b → b < W.heap.size) → RepN S W vk x.kids → Calls Tryz.prog 211 #[vk] W (FreshPost x.kids W)) :
    Calls Tryz.prog 218 #[x.val va vk] w (FreshV x w) := by
  obtain ⟨hat, hkd⟩ := hx
  obtain ⟨a1, cap1, rfl⟩ := hat.slice
  obtain ⟨a2, cap2, rfl⟩ := hkd.slice
  replace ih := Lib.hid ih
  go_enter Tryz.func218, Tryz.ntmps218
  have b0 := (Box.new w 41 (x.cells (.slice a1 x.attrs.length cap1) (.slice a2 x.kids.length cap2))).alloc (.cells #[.int .i64 0, .string ⟨#[]⟩, .slice none 0 0, .string ⟨#[]⟩, .slice none 0 0] 41)
  have b1 := Box.new (w.alloc (.cells (x.cells (.slice a1 x.attrs.length cap1) (.slice a2 x.kids.length cap2)).toArray 41)) 41 [.int .i64 0, .string ⟨#[]⟩, .slice none 0 0, .string ⟨#[]⟩, .slice none 0 0]
  have hB0 : Below w.heap.size w ((w.alloc (.cells (x.cells (.slice a1 x.attrs.length cap1) (.slice a2 x.kids.length cap2)).toArray 41)).alloc (.cells #[.int .i64 0, .string ⟨#[]⟩, .slice none 0 0, .string ⟨#[]⟩, .slice none 0 0] 41)) := ((Below.refl _ w).alloc (Nat.le_refl _) _).alloc (by simp) _
  have hs0 : ((w.alloc (.cells (x.cells (.slice a1 x.attrs.length cap1) (.slice a2 x.kids.length cap2)).toArray 41)).alloc (.cells #[.int .i64 0, .string ⟨#[]⟩, .slice none 0 0, .string ⟨#[]⟩, .slice none 0 0] 41)).heap.size = w.heap.size + 2 := by simp
  have hat0 := hat.below hS hB0
  simp only [World.size_alloc] at b1
  go_wp2_with (at_builtin; refine wpList_appRow _ rfl _ _ 39 43 rfl (w.heap.size + 2) 2 Tryz.underlying39 infoA rfl (by omega) _ 0 [] rfl (World.ownsRow_nil _ _ _ _) S _ x.attrs.length (cellsA x.attrs) rfl hat0 (cellsA_one _) (by omega) (by omega) (by simp) ?_; intro v1 w1 hown1 hgrow1; obtain ⟨a3, cap3, rfl⟩ := own_slice hown1; have hb1 := below_none hgrow1; rw [hs0] at hb1; have b2 := b0.below hb1 (by omega); have b3 := b1.below hb1 (by omega); have c2 := b2.cell (i := 2) rfl; have c4 := b2.cell (i := 4) rfl; have f2 := b2.free 2)
  have b4 := b2.set 2 (.slice a3 x.attrs.length cap3)
  have b5 := b3.far (p := ⟨w.heap.size, 2, none⟩) (by simp) (.slice a3 x.attrs.length cap3)
  have hz1 : (w1.setCell ⟨w.heap.size, 2, none⟩ (.slice a3 x.attrs.length cap3)).heap.size = w1.heap.size := by simp [World.setCell]
  have hB1 : Below w.heap.size w (w1.setCell ⟨w.heap.size, 2, none⟩ (.slice a3 x.attrs.length cap3)) := (hB0.trans (hb1.mono (by omega))).setCell (p := ⟨w.heap.size, 2, none⟩) (Nat.le_refl _) _
  have hown2 := own_keep hown1 (w' := w1.setCell ⟨w.heap.size, 2, none⟩ (.slice a3 x.attrs.length cap3)) (fun g hg => Below.heap_setCell _ _ _ _ (by have := (hown1.lt g hg).1; simp; omega))
  have hsz1 := hb1.size
  simp only [List.nil_append, Nat.zero_add] at hown2
  simp only [List.set_cons_succ, List.set_cons_zero] at b4
  obtain ⟨W1, hW1⟩ : ∃ W1, w1.setCell ⟨w.heap.size, 2, none⟩ (.slice a3 x.attrs.length cap3) = W1 := ⟨_, rfl⟩
  rw [hW1] at b4 b5 hz1 hB1 hown2 ⊢
  clear hW1 b0 b1 b2 b3 c2 c4 f2 hown1 hgrow1 hat0
  refine (ih.out W1 (fun b h => by have := hS b h; have := hB1.size; omega) (hkd.below hS hB1)).mono ?_
  rintro e w2 ⟨v2, rfl, ⟨zs, F, hown3, hown4, hspan⟩, hb2⟩
  obtain ⟨a4, cap4, rfl⟩ := own_slice hown3
  have hz2 := hb2.size
  have d0 := b4.below hb2 b4.lt
  have e0 := b5.below hb2 b5.lt
  have q0 := d0.cell (i := 0) rfl
  have q1 := d0.cell (i := 1) rfl
  have q2 := d0.cell (i := 2) rfl
  have q3 := d0.cell (i := 3) rfl
  have q4 := d0.cell (i := 4) rfl
  have p4 := d0.free 4
  have r0 := e0.cell (i := 0) rfl
  have r1 := e0.cell (i := 1) rfl
  have r2 := e0.cell (i := 2) rfl
  have r3 := e0.cell (i := 3) rfl
  have r4 := e0.cell (i := 4) rfl
  have s0 := e0.free 0
  have s1 := e0.free 1
  have s2 := e0.free 2
  have s3 := e0.free 3
  have s4 := e0.free 4
  replace hown3 := Lib.hid hown3
  replace hown4 := Lib.hid hown4
  replace hspan := Lib.hid hspan
  replace hown2 := Lib.hid hown2
  clear ih
  go_wp2
  have hfar : ∀ b, w.heap.size + 2 ≤ b → ((((((w2.setCell ⟨w.heap.size, 4, none⟩ (.slice a4 x.kids.length cap4)).setCell ⟨w.heap.size + 1, 0, none⟩ (.int .i64 x.kind)).setCell ⟨w.heap.size + 1, 1, none⟩ (.string x.name)).setCell ⟨w.heap.size + 1, 2, none⟩ (.slice a3 x.attrs.length cap3)).setCell ⟨w.heap.size + 1, 3, none⟩ (.string x.text)).setCell ⟨w.heap.size + 1, 4, none⟩ (.slice a4 x.kids.length cap4)).heap[b]? = w2.heap[b]? := by
    intro b h
    rw [Below.heap_setCell _ _ _ _ (by simp; omega), Below.heap_setCell _ _ _ _ (by simp; omega), Below.heap_setCell _ _ _ _ (by simp; omega), Below.heap_setCell _ _ _ _ (by simp; omega), Below.heap_setCell _ _ _ _ (by simp; omega), Below.heap_setCell _ _ _ _ (by simp; omega)]
  have hB2 : Below w.heap.size w w2 := hB1.trans (hb2.mono (by have := hB1.size; omega))
  have hB3 := (((((hB2.setCell (p := ⟨w.heap.size, 4, none⟩) (Nat.le_refl _) (.slice a4 x.kids.length cap4)).setCell (p := ⟨w.heap.size + 1, 0, none⟩) (by simp) (.int .i64 x.kind)).setCell (p := ⟨w.heap.size + 1, 1, none⟩) (by simp) (.string x.name)).setCell (p := ⟨w.heap.size + 1, 2, none⟩) (by simp) (.slice a3 x.attrs.length cap3)).setCell (p := ⟨w.heap.size + 1, 3, none⟩) (by simp) (.string x.text)).setCell (p := ⟨w.heap.size + 1, 4, none⟩) (by simp) (.slice a4 x.kids.length cap4)
  have hz5 : ((((((w2.setCell ⟨w.heap.size, 4, none⟩ (.slice a4 x.kids.length cap4)).setCell ⟨w.heap.size + 1, 0, none⟩ (.int .i64 x.kind)).setCell ⟨w.heap.size + 1, 1, none⟩ (.string x.name)).setCell ⟨w.heap.size + 1, 2, none⟩ (.slice a3 x.attrs.length cap3)).setCell ⟨w.heap.size + 1, 3, none⟩ (.string x.text)).setCell ⟨w.heap.size + 1, 4, none⟩ (.slice a4 x.kids.length cap4)).heap.size = w2.heap.size := by simp [World.setCell]
  have e1 := (((((e0.far (p := ⟨w.heap.size, 4, none⟩) (by simp) (.slice a4 x.kids.length cap4)).set 0 (.int .i64 x.kind)).set 1 (.string x.name)).set 2 (.slice a3 x.attrs.length cap3)).set 3 (.string x.text)).set 4 (.slice a4 x.kids.length cap4)
  simp only [List.set_cons_succ, List.set_cons_zero] at e1
  obtain ⟨W5, hW5⟩ : ∃ W5, (((((w2.setCell ⟨w.heap.size, 4, none⟩ (.slice a4 x.kids.length cap4)).setCell ⟨w.heap.size + 1, 0, none⟩ (.int .i64 x.kind)).setCell ⟨w.heap.size + 1, 1, none⟩ (.string x.name)).setCell ⟨w.heap.size + 1, 2, none⟩ (.slice a3 x.attrs.length cap3)).setCell ⟨w.heap.size + 1, 3, none⟩ (.string x.text)).setCell ⟨w.heap.size + 1, 4, none⟩ (.slice a4 x.kids.length cap4) = W5 := ⟨_, rfl⟩
  rw [hW5] at hfar hB3 hz5 e1 ⊢
  clear hW5 q0 q1 q2 q3 q4 p4 r0 r1 r2 r3 r4 s0 s1 s2 s3 s4 d0 e0 b4 b5
  have t0 := e1.cell (i := 0) rfl
  have t1 := e1.cell (i := 1) rfl
  have t2 := e1.cell (i := 2) rfl
  have t3 := e1.cell (i := 3) rfl
  have t4 := e1.cell (i := 4) rfl
  have hW1s := hB1.size
  have hw1 : w.heap.size + 2 ≤ W1.heap.size := by rw [hz1]; have := hsz1; simp at this; omega
  refine bodyPost_ret (v := x.val (.slice a3 x.attrs.length cap3) (.slice a4 x.kids.length cap4)) (by simp [results, Tryz.results218, go_sem, t0, t1, t2, t3, t4]) rfl ?_
  have o2 := own_keep hown2.out (w' := W5) (fun g hg => by
    have h1 := hown2.out.lt g hg
    rw [hfar g h1.1]; exact hb2.block g h1.2)
  have o3 := own_keep hown3.out (w' := W5) (fun g hg => hfar g (by have h1 := hown3.out.lt g hg; omega))
  refine ⟨_, _, zs, F, rfl, own_base o2 (fun g hg => by have := (o2.lt g hg).1; omega), own_base o3 (fun g hg => by have := (o3.lt g hg).1; omega), OwnC.keep _ _ _ (fun b hb => hfar b (by have := hspan.out.2 b (by simp [hb]); omega)) hown4.out, ?_, hB3⟩
  have sp := Span.own hown2.out
  exact Span.mono (Span.append sp (hspan.out) (by omega) (by omega)) (by omega) (by omega)
end Go.Proofs.YteefodibpjgicaaGreat

namespace Go.Proofs.YteefodibpjgicaaGreat
open Go.RowKit
abbrev NV.cells (b : NV) : List Value := b.x.cells b.va b.vk
def cellsV (L : List NV) : List Value := L.flatMap NV.cells
def NV.ok (b : NV) : Prop := (∃ a c, b.va = .slice a b.x.attrs.length c) ∧ ∃ a c, b.vk = .slice a b.x.kids.length c
theorem cellsV_cons (b : NV) (L : List NV) : cellsV (b :: L) = b.cells ++ cellsV L := rfl
theorem cellsV_append (A B : List NV) : cellsV (A ++ B) = cellsV A ++ cellsV B := by simp [cellsV]
theorem cellsV_one (b : NV) : cellsV [b] = b.cells := by simp [cellsV]
theorem cellsV_snoc (A : List NV) (b : NV) : cellsV (A ++ [b]) = cellsV A ++ b.cells := by rw [cellsV_append, cellsV_one]
theorem cellsV_len (L : List NV) : (cellsV L).length = L.length * 5 := by
  induction L with
  | nil => rfl
  | cons b r ih => rw [cellsV_cons, List.length_append, ih, List.length_cons]; simp; omega
theorem RepV.ok {S : Nat → Prop} {w : World} {b : NV} (h : RepV S w b.x b.va b.vk) : b.ok := ⟨h.at_.slice, h.kids.slice⟩
theorem RepC.nv {S : Nat → Prop} {w : World} : ∀ (l : List Nd) (xs : List Value), RepC S w xs l → ∃ L : List NV, L.map NV.x = l ∧ xs = cellsV L ∧ ∀ b ∈ L, RepV S w b.x b.va b.vk := by
  intro l
  induction l using Nd.ind with
  | h0 => intro xs h; rw [RepC] at h; exact ⟨[], rfl, h, fun b hb => by cases hb⟩
  | h1 k n ats t ks r _ ih2 =>
    intro xs h
    obtain ⟨va, vk, ys, rfl, h2, h3, h5⟩ := RepC.cons_iff.1 h
    obtain ⟨L, rfl, rfl, hL⟩ := ih2 _ h5
    refine ⟨⟨.mk k n ats t ks, va, vk⟩ :: L, rfl, rfl, fun b hb => ?_⟩
    rcases List.mem_cons.1 hb with rfl | hb
    · exact ⟨h2, h3⟩
    · exact hL b hb
theorem RepC.of_nv {S : Nat → Prop} {w : World} {L : List NV} (h : ∀ b ∈ L, RepV S w b.x b.va b.vk) : RepC S w (cellsV L) (L.map NV.x) := by
  induction L with
  | nil => exact RepC.nil _ _
  | cons b r ih =>
    rw [cellsV_cons, List.map_cons]
    exact RepC.append (m := r.map NV.x) (ih (fun c hc => h c (by simp [hc]))) [b.x] _ (RepC.single (h b (by simp)))
theorem cellsV_at (L : List NV) (i : Nat) (h : i < L.length) :
    (cellsV L)[i * 5]? = some (.int .i64 L[i].x.kind) ∧ (cellsV L)[i * 5 + 1]? = some (.string L[i].x.name) ∧ (cellsV L)[i * 5 + 2]? = some L[i].va ∧ (cellsV L)[i * 5 + 3]? = some (.string L[i].x.text) ∧ (cellsV L)[i * 5 + 4]? = some L[i].vk := by
  induction L generalizing i with
  | nil => simp at h
  | cons b r ih =>
    cases i with
    | zero => simp [cellsV_cons, NV.cells]
    | succ i =>
      have := ih i (by simpa using h)
      rw [cellsV_cons, show (i + 1) * 5 = i * 5 + 1 + 1 + 1 + 1 + 1 by omega]
      simpa [NV.cells] using this
theorem own_atV {w : World} {B g : Nat} {n cap : Nat} {L : List NV} (h : w.ownsRow B 41 5 (.slice (some ⟨g, 0, none⟩) n cap) n (cellsV L)) (i : Nat) (hi : i < L.length) :
    w.cell? ⟨g, i * 5, none⟩ = some (.int .i64 L[i].x.kind) ∧ w.cell? ⟨g, i * 5 + 3, none⟩ = some (.string L[i].x.text) ∧ w.frozen? ⟨g, i * 5 + 3, none⟩ = false := by
  obtain ⟨c0, c1, c2, c3, c4⟩ := cellsV_at L i hi
  have hc := fun j u hu => h.cells (g := g) rfl j u hu
  refine ⟨by have := hc _ _ c0; rwa [add_plain', Nat.zero_add] at this, by have := hc _ _ c3; rwa [add_plain', Nat.zero_add] at this, ?_⟩
  rcases h.2 with ⟨h', _⟩ | ⟨g', cap', cur, h', _, hg, _⟩
  · cases h'
  · cases h'
    simp [World.frozen?, hg]
theorem wpList_appK {P : Program} {ops : Array Oper} {rest : List Oper} {o : Oper} {a : Act} {Q : Exit → Act → World → Prop} (w1 : World) (cs : List Value) (k : Nat) (hgd : o.guard = none) (s y : Operand) (t e : TypeId)
    (ho : o.op = .call { callee := .builtin .append, args := #[s, y], argTypes := #[t, t] }) (base : Nat) {z : Value} {bytes : Nat} (ht : P.underlying t = some (.slice e))
    (hinfo : (P.info? e).map (fun i => (i.zero, i.size, i.bytes)) = some (some z, k, bytes)) (hz : z.cells.size = k) (hk : 0 < k)
    (v : Value) (n : Nat) (xs : List Value) (hs : a.eval s = v) (hown : w1.ownsRow base e k v n xs) (H : Nat) (hH : w1.heap.size = H) (hx : a.eval y = .slice (some ⟨H, 0, none⟩) 1 1) (hcs : cs.length = k) (h1 : ∀ u ∈ cs, u.oneCell' = true)
    (h63 : n + 1 ≤ 9223372036854775807) (hbytes : (n + 1) * bytes ≤ 140737488355328) (hbase : base ≤ w1.heap.size)
    (h : ∀ g cap w2, w2.ownsRow base e k (.slice (some ⟨g, 0, none⟩) (n + 1) cap) (n + 1) (xs ++ cs) → w1.grownBy w2 v.ownBlock → (v.ownBlock = some g ∨ w1.heap.size ≤ g) → wpList P ops Q rest (a.put o.dst (.slice (some ⟨g, 0, none⟩) (n + 1) cap)) w2) : wpList P ops Q (o :: rest) a (w1.alloc (.cells cs.toArray e)) := by
  subst hH
  obtain ⟨i, hi, hz0, hz1, hz2⟩ := info_parts hinfo
  refine wpList_append_lies _ hgd s y t ho base e i z k bytes ht hi hz0 hz1 hz2 hz hk v n xs hs (hown.alloc _) ⟨w1.heap.size, 0, none⟩ 1 1 cs hx (by omega) ?_ h1 (by omega) (by unfold maxLen; omega) hbytes (by simp; omega) _ rfl ?_
  · intro j u hj
    rw [add_plain', Nat.zero_add, World.cell?_alloc_at _ _ _ _ rfl]
    simpa using hj
  · intro g cap w2 h2 h3 h4 _
    exact h g cap w2 h2 (grownBy_of_alloc h3) (by
      rcases h4 with h4 | h4
      · exact .inl h4
      · right; rw [h4]; simp)
theorem own_below3 {w w1 : World} {base : Nat} {e : TypeId} {k : Nat} {v : Value} {n : Nat} {xs : List Value} (h : w.ownsRow base e k v n xs) (hb : Below w.heap.size w w1) : w1.ownsRow base e k v n xs :=
  own_keep h (fun g hg => hb.block g (h.lt g hg).2)
theorem below_own {B base : Nat} {e : TypeId} {k n : Nat} {v : Value} {xs : List Value} {a w w' : World} (h : Below B a w) (hown : w.ownsRow base e k v n xs) (hg : w.grownBy w' v.ownBlock) (hB : B ≤ w.heap.size) (hb : B ≤ base) : Below B a w' :=
  h.grown hg hB (fun k hk => by have := (hown.lt k hk).1; omega)
def NV.withText (b : NV) (t : ByteArray) : NV := ⟨M3.withText b.x t, b.va, b.vk⟩
theorem cat_size (s t : ByteArray) : (M3.cat s t).size = s.size + t.size := by
  show (M3.cat s t).data.toList.length = s.data.toList.length + t.data.toList.length
  rw [M3.cat_data, List.length_append]
end Go.Proofs.YteefodibpjgicaaGreat

namespace Go.Proofs.YteefodibpjgicaaGreat
open Go.RowKit
theorem five_one (k : Int) (n t : ByteArray) (a1 a2 : Option Addr) (n1 c1 n2 c2 : Nat) : ∀ u ∈ ([.int .i64 k, .string n, .slice a1 n1 c1, .string t, .slice a2 n2 c2] : List Value), u.oneCell' = true := by simp [Value.oneCell']
theorem meas_nat {n k : Nat} (h : k < n) : n - (intOf (.int .i64 ((k : Int) + 1))).toNat < n - (intOf (.int .i64 (k : Int))).toNat := by
  show n - ((k : Int) + 1).toNat < n - (k : Int).toNat
  omega
theorem cat_eq (s t : ByteArray) : M3.cat s t = s ++ t := by
  have h := cat_mk s.data.toList t
  have e : (⟨s.data.toList.toArray⟩ : ByteArray) = s := by cases s; simp
  rw [e] at h
  rw [h]; rfl
theorem setText_cells (A : List NV) (y : NV) (t : ByteArray) (i : Nat) (h : i = A.length) : (cellsV (A ++ [y])).set (i * 5 + 3) (.string t) = cellsV (A ++ [y.withText t]) := by
  subst h
  rw [cellsV_snoc, cellsV_snoc]
  have h5 : (cellsV A).length = A.length * 5 := cellsV_len A
  rw [List.set_append_right _ _ (by omega), h5, show A.length * 5 + 3 - A.length * 5 = 3 by omega]
  obtain ⟨x, va, vk⟩ := y
  cases x
  rfl
end Go.Proofs.YteefodibpjgicaaGreat

namespace Go.Proofs.YteefodibpjgicaaGreat
open Go.RowKit Go.Maps Go.WideShapes
theorem zero32 (w : World) : (zeroValue 21).run Tryz.prog w = .ok (.int .i32 0) w := by kernel_rfl
def namesL : List (Lit × DataW Unit) := M2.tbl.map fun p => (.string p.1, .lit (.int .i32 (p.2 : Int)))
def namesD : DataW Unit := rowD namesL (.map [])
theorem namesL_keys : ∀ p ∈ namesL, WideAt.IsKeyLit p.1 := by
  intro p hp
  obtain ⟨q, _, rfl⟩ := List.mem_map.1 hp
  trivial
theorem namesL_apart : namesL.Pairwise (fun p q => p.1 ≠ q.1) := by
  rw [namesL, List.pairwise_map]
  exact M2.tbl_apart.imp (fun h e => h (by simpa using e))
theorem names_has (s : List UInt8) : Maps.has namesD (.string s) = (M2.nm s).isSome := by
  unfold namesD
  rw [rowD_has _ _ _ isMap_empty namesL_keys, has_eq, List.any_nil, Bool.or_false]
  rw [Bool.eq_iff_iff, List.any_eq_true]
  constructor
  · rintro ⟨p, hp, h⟩
    obtain ⟨q, hq, rfl⟩ := List.mem_map.1 hp
    have h := WideAt.sameKey_eq h
    simp only [Lit.string.injEq] at h
    rw [← h, M2.nm_of_mem hq]
    rfl
  · intro h
    obtain ⟨n, hn⟩ := Option.isSome_iff_exists.1 h
    exact ⟨_, List.mem_map.2 ⟨_, M2.nm_mem hn, rfl⟩, WideAt.sameKey_self (by trivial)⟩
theorem names_at (s : List UInt8) : namesD.atKey (.string s) (.lit (.int .i32 0)) = .lit (.int .i32 (((M2.nm s).getD 0 : Nat) : Int)) := by
  cases h : M2.nm s with
  | none =>
    refine atKey_of_not_has ?_ _
    rw [names_has, h]
    rfl
  | some n => exact rowD_at namesL _ _ (.string s, .lit (.int .i32 (n : Int))) isMap_empty namesL_keys namesL_apart (List.mem_map.2 ⟨_, M2.nm_mem h, rfl⟩)
abbrev Names (w : World) (b : Nat) : Prop := w.ownsMap Tryz.prog 9 (plainElem Tryz.prog 21) b 15 namesD
set_option maxHeartbeats 4000000 in
set_option maxRecDepth 100000 in
theorem refsNames (w : World) :
    Calls Tryz.prog 177 #[] w fun e w' => ∃ b, e = .returned (.map (some b)) ∧ Names w' b ∧ Below w.heap.size w w' := by
  have upd : ∀ (wa : World) (D : DataW Unit) (n : Nat) (l : List UInt8) (c : Int), wa.ownsMap Tryz.prog 9 (plainElem Tryz.prog 21) w.heap.size n D → n < 100 → l.length ≤ 100 → 0 ≤ c → c ≤ 10000 →
      ∃ wb, (Instr.mapUpdate 173 (.map (some w.heap.size)) (.string ⟨l.toArray⟩) (.int .i32 c)).run Tryz.prog wa = .ok () wb ∧ wb.ownsMap Tryz.prog 9 (plainElem Tryz.prog 21) w.heap.size (n + 1) (D.put (.string l) (.lit (.int .i32 c))) ∧ wa.grownBy wb (some w.heap.size) := by
    intro wa D n l c ho hn hl h0 h1
    refine ho.update lawS Tryz.underlying173 (by unfold maxLen; omega) (WideMaps.keyOf_string_mk Tryz.underlying9 (s := ⟨l.toArray⟩) (by unfold maxLen; show l.length ≤ _; omega)) (plainElem_int Tryz.underlying21 ?_)
    have h3 : IntKind.i32.min = -2147483648 := rfl
    have h4 : IntKind.i32.max = 2147483647 := rfl
    simp only [Lit.wf, Bool.and_eq_true, decide_eq_true_eq, h3, h4]
    omega
  have o0 := World.ownsMap_made w Tryz.prog 9 (plainElem (H := Unit) Tryz.prog 21)
  have b0 := (Below.refl w.heap.size w).alloc (Nat.le_refl _) (.map #[] 0)
  have hmm := @run_makeMap Tryz.prog 173 w
  generalize w.alloc (.map #[] 0) = w0 at *
  obtain ⟨w1, r1, o1, g1⟩ := upd w0 _ 0 [97, 109, 112] 38 o0 (by decide) (by decide) (by decide) (by decide)
  obtain ⟨w2, r2, o2, g2⟩ := upd w1 _ 1 [108, 116] 60 o1 (by decide) (by decide) (by decide) (by decide)
  obtain ⟨w3, r3, o3, g3⟩ := upd w2 _ 2 [103, 116] 62 o2 (by decide) (by decide) (by decide) (by decide)
  obtain ⟨w4, r4, o4, g4⟩ := upd w3 _ 3 [113, 117, 111, 116] 34 o3 (by decide) (by decide) (by decide) (by decide)
  obtain ⟨w5, r5, o5, g5⟩ := upd w4 _ 4 [97, 112, 111, 115] 39 o4 (by decide) (by decide) (by decide) (by decide)
  obtain ⟨w6, r6, o6, g6⟩ := upd w5 _ 5 [110, 98, 115, 112] 160 o5 (by decide) (by decide) (by decide) (by decide)
  obtain ⟨w7, r7, o7, g7⟩ := upd w6 _ 6 [99, 111, 112, 121] 169 o6 (by decide) (by decide) (by decide) (by decide)
  obtain ⟨w8, r8, o8, g8⟩ := upd w7 _ 7 [114, 101, 103] 174 o7 (by decide) (by decide) (by decide) (by decide)
  obtain ⟨w9, r9, o9, g9⟩ := upd w8 _ 8 [100, 101, 103] 176 o8 (by decide) (by decide) (by decide) (by decide)
  obtain ⟨w10, r10, o10, g10⟩ := upd w9 _ 9 [109, 105, 100, 100, 111, 116] 183 o9 (by decide) (by decide) (by decide) (by decide)
  obtain ⟨w11, r11, o11, g11⟩ := upd w10 _ 10 [116, 105, 109, 101, 115] 215 o10 (by decide) (by decide) (by decide) (by decide)
  obtain ⟨w12, r12, o12, g12⟩ := upd w11 _ 11 [110, 100, 97, 115, 104] 8211 o11 (by decide) (by decide) (by decide) (by decide)
  obtain ⟨w13, r13, o13, g13⟩ := upd w12 _ 12 [109, 100, 97, 115, 104] 8212 o12 (by decide) (by decide) (by decide) (by decide)
  obtain ⟨w14, r14, o14, g14⟩ := upd w13 _ 13 [104, 101, 108, 108, 105, 112] 8230 o13 (by decide) (by decide) (by decide) (by decide)
  obtain ⟨w15, r15, o15, g15⟩ := upd w14 _ 14 [101, 117, 114, 111] 8364 o14 (by decide) (by decide) (by decide) (by decide)
  have hb := (World.grownBy.trans g1 (g2.trans (g3.trans (g4.trans (g5.trans (g6.trans (g7.trans (g8.trans (g9.trans (g10.trans (g11.trans (g12.trans (g13.trans (g14.trans g15))))))))))))))
  have hB := Lib.hid (b0.grown hb b0.size (fun k hk => by cases hk; exact Nat.le_refl _))
  have hN : Hid (Names w15 w.heap.size) := o15
  clear upd b0 o0 o1 o2 o3 o4 o5 o6 o7 o8 o9 o10 o11 o12 o13 o14 o15 g1 g2 g3 g4 g5 g6 g7 g8 g9 g10 g11 g12 g13 g14 g15 hb
  go_enter Tryz.func177, Tryz.ntmps177
  go_wp2
  go_ret
  exact ⟨_, rfl, hN.out, hB.out⟩
set_option maxHeartbeats 1000000 in
theorem refsDigit (r : Int) (w : World) :
    Calls Tryz.prog 198 #[.int .i32 r] w fun e w' => e = .returned (.int .i32 (M2.digZ r)) ∧ w' = w := by
  by_cases h1 : 48 ≤ r ∧ r ≤ 57
  · rw [show M2.digZ r = r - 48 from if_pos h1]
    obtain ⟨h1, h2⟩ := h1
    go_enter Tryz.func198, Tryz.ntmps198
    go_wp2
    go_ret
    exact ⟨rfl, rfl⟩
  by_cases h2 : 97 ≤ r ∧ r ≤ 102
  · rw [show M2.digZ r = r - 97 + 10 by rw [M2.digZ, if_neg h1, if_pos h2]]
    obtain ⟨h2, h3⟩ := h2
    have hd : decide (r ≤ 57) = false := decide_eq_false (by omega)
    clear h1
    go_enter Tryz.func198, Tryz.ntmps198
    go_wp2
    go_ret
    exact ⟨rfl, rfl⟩
  by_cases h3 : 65 ≤ r ∧ r ≤ 70
  · rw [show M2.digZ r = r - 65 + 10 by rw [M2.digZ, if_neg h1, if_neg h2, if_pos h3]]
    obtain ⟨h3, h4⟩ := h3
    have hd : decide (r ≤ 57) = false := decide_eq_false (by omega)
    have hd2 : decide (97 ≤ r) = false := decide_eq_false (by omega)
    clear h1 h2
    go_enter Tryz.func198, Tryz.ntmps198
    go_wp2
    go_ret
    exact ⟨rfl, rfl⟩
  · rw [show M2.digZ r = -1 by rw [M2.digZ, if_neg h1, if_neg h2, if_neg h3]]
    go_enter Tryz.func198, Tryz.ntmps198
    go_wp2
    all_goals first | (exfalso; omega) | (go_ret; exact ⟨rfl, rfl⟩)
set_option maxHeartbeats 1000000 in
theorem refsCharacter (n : Int) (w : World) :
    Calls Tryz.prog 196 #[.int .i32 n] w fun e w' => e = .returned (.int .i32 (M2.chr n)) ∧ w' = w := by
  by_cases h : n = 0 ∨ n = 13 ∨ (55296 ≤ n ∧ n ≤ 57343) ∨ 1114111 < n
  · rw [show M2.chr n = 65533 from if_pos h]
    go_enter Tryz.func196, Tryz.ntmps196
    go_wp2
    all_goals first | (exfalso; omega) | (go_ret; exact ⟨rfl, rfl⟩)
  · rw [show M2.chr n = n from if_neg h]
    have e0 : (n == 0) = false := by simpa using fun e => h (Or.inl e)
    have e1 : (n == 13) = false := by simpa using fun e => h (Or.inr (Or.inl e))
    have e2 : decide (1114111 < n) = false := decide_eq_false (fun e => h (Or.inr (Or.inr (Or.inr e))))
    by_cases h5 : 55296 ≤ n
    · have e3 : decide (n ≤ 57343) = false := decide_eq_false (fun e => h (Or.inr (Or.inr (Or.inl ⟨h5, e⟩))))
      clear h
      go_enter Tryz.func196, Tryz.ntmps196
      go_wp2
      go_ret
      exact ⟨rfl, rfl⟩
    · have e4 : decide (55296 ≤ n) = false := decide_eq_false h5
      clear h
      go_enter Tryz.func196, Tryz.ntmps196
      go_wp2
      go_ret
      exact ⟨rfl, rfl⟩
theorem nextDec {P : Program} (w : World) (k : Nat) (s : ByteArray) (pos : Nat) (hk : w.heap[k]? = some (.stringIter s pos)) (h : pos < s.size) : ∀ ty,
    (Instr.next (.pointer (some ⟨k, 0, none⟩)) true ty).run P w =
      .ok (.tuple #[.bool true, .int .i64 pos, .int .i32 (M1.dec (s.data.toList.drop pos)).1]) (w.iterAt k s (pos + (M1.dec (s.data.toList.drop pos)).2)) := fun ty => by
  rw [Lib.run_next_any_at w k s pos ty hk h, M1.decode_eq]
set_option maxHeartbeats 2000000 in
set_option maxRecDepth 100000 in
theorem refsNumber (s : ByteArray) (b m : Nat) (w : World) (hb0 : 1 ≤ b) (hb : b ≤ 16) (hm : m ≤ 7) (hpow : ∀ k, k ≤ m → ((b : Int)) ^ k ≤ 16777216) (hs : s.size ≤ 9223372036854775807) :
    Calls Tryz.prog 195 #[.string s, .int .i32 (b : Int), .int .i64 (m : Int)] w fun e w' => e = .returned (.tuple #[.int .i32 (M2.val b (M2.digs b m s.data.toList)), .int .i64 ((M2.digs b m s.data.toList).length : Int)]) ∧ Below w.heap.size w w' := by
  have hsz : s.size = s.data.toList.length := rfl
  generalize hl : s.data.toList = l at *
  replace hpow := Lib.hid hpow
  go_enter Tryz.func195, Tryz.ntmps195
  go_wp2
  go_loopw [8, 9] (fun u8 u9 wr => ∃ k : Nat, k ≤ l.length ∧ k ≤ m ∧ u8 = .int .i32 (M2.val b (l.take k)) ∧ u9 = .int .i64 (k : Int) ∧ wr.heap[w.heap.size]? = some (.stringIter s k) ∧ Below w.heap.size w wr ∧ Hid (∀ c ∈ l.take k, M2.isD b c = true)) (fun _ _ wr => l.length - wr.iterPos w.heap.size)
  case atStart =>
    exact ⟨0, by omega, by omega, rfl, rfl, World.iter_heap w _ 0, (Below.refl _ w).alloc (Nat.le_refl _) _, by intro c hc; simp at hc⟩
  case round =>
    obtain ⟨k, hk, hkm, rfl, rfl, hit, hbw, hall⟩ := hrel
    have hbd := M2.val_bd b _ hall.out
    have hlk : (l.take k).length = k := by rw [List.length_take]; omega
    have hpk := hpow.out k hkm
    rw [hlk] at hbd
    have hfin : (k = m ∨ k = l.length ∨ ∃ c, l[k]? = some c ∧ M2.isD b c = false) → M2.digs b m l = l.take k := M2.digs_of b m l k hk hkm hall.out
    by_cases hp : k < l.length
    · have hdr : l.drop k = l[k] :: l.drop (k + 1) := List.drop_eq_getElem_cons hp
      have hnx := nextDec (P := Tryz.prog) wr w.heap.size s k hit (by omega)
      rw [hl, hdr] at hnx
      have htk : l.take (k + 1) = l.take k ++ [l[k]] := List.take_succ_eq_append_getElem hp
      have hfc := fun (h : M2.isD b l[k] = false) => hfin (Or.inr (Or.inr ⟨l[k], List.getElem?_eq_getElem hp, h⟩))
      have hfm := fun (h : k = m) => hfin (Or.inl h)
      have hal : M2.isD b l[k] = true → ∀ c ∈ l.take (k + 1), M2.isD b c = true := by
        intro h c hc
        rw [htk] at hc
        rcases List.mem_append.1 hc with hc | hc
        · exact hall.out c hc
        · simp at hc; subst hc; exact h
      have hva : M2.val b (l.take (k + 1)) = M2.val b (l.take k) * b + M2.digZ l[k].toNat := by rw [htk, M2.val_snoc]
      have hlo := M2.dec_lo l[k] (l.drop (k + 1))
      have hhi := M2.dec_hi l[k] (l.drop (k + 1))
      have hdp := M1.dec_pos (l[k]'hp :: l.drop (k + 1)) (List.cons_ne_nil _ _)
      have hdlt := M1.dec_lt (l[k]'hp :: l.drop (k + 1))
      have hdzb := M2.digZ_bd l[k].toNat
      generalize l[k] = c at *
      generalize l.drop (k + 1) = t at *
      generalize M1.dec (c :: t) = rw_ at *
      obtain ⟨r, wd⟩ := rw_
      simp only at hnx hhi hdlt hdp
      have hbw1 := Lib.below_iterAt hbw (Nat.le_refl _) s (k + wd)
      have hit1 := Lib.iterAt_heap wr w.heap.size s k (k + wd) hit
      have hsz1 := Lib.iterAt_size wr w.heap.size s (k + wd)
      generalize wr.iterAt w.heap.size s (k + wd) = w1 at *
      have hsz2 : w.heap.size < w1.heap.size := by
        have := (Array.getElem?_eq_some_iff.1 hit1).1
        exact this
      clear hfin hdr htk
      replace hfc := Lib.hid hfc
      replace hfm := Lib.hid hfm
      replace hal := Lib.hid hal
      replace hva := Lib.hid hva
      by_cases hd : M2.isD b c = true
      · have hc128 := M2.isD_ascii hd
        have hrw := hlo hc128
        simp only [Prod.mk.injEq] at hrw
        obtain ⟨rfl, rfl⟩ := hrw
        have hd2 := of_decide_eq_true (show decide (0 ≤ M2.digZ c.toNat ∧ M2.digZ c.toNat < b) = true from hd)
        obtain ⟨hd3, hd4⟩ := hd2
        have hal2 := Lib.hid (hal.out hd)
        clear hal hfc hlo hhi hd hdlt hdp
        by_cases hkm2 : k = m
        · replace hfm := Lib.hid (hfm.out hkm2)
          have hne : ((k : Int) == (m : Int)) = true := by rw [hkm2]; simp
          clear hkm2
          have hge : decide ((b : Int) ≤ M2.digZ c.toNat) = false := decide_eq_false (by omega)
          clear hva
          go_wp2_with (go_at_call 198; refine (refsDigit _ _).mono ?_; rintro e w2 ⟨rfl, rfl⟩)
          go_ret2
          rw [hfm.out, hlk]
          exact ⟨rfl, hbw1⟩
        · have hne : ((k : Int) == (m : Int)) = false := by simpa using fun e => hkm2 (by omega)
          have hge : decide ((b : Int) ≤ M2.digZ c.toNat) = false := decide_eq_false (by omega)
          have hm1 : M2.val b (l.take k) * b ≤ 16777216 * 16 := Int.mul_le_mul (by omega) (by omega) (by omega) (by omega)
          have hm0 : 0 ≤ M2.val b (l.take k) * b := Int.mul_nonneg hbd.1 (by omega)
          go_wp2_with (go_at_call 198; refine (refsDigit _ _).mono ?_; rintro e w2 ⟨rfl, rfl⟩)
          go_roundw
          case rel => exact ⟨k + 1, by omega, by omega, by rw [hva.out], by go_num, hit1, hbw1, hal2.out⟩
          case measure => rw [iterPos_of hit1, iterPos_of hit]; omega
      · have hdf : M2.isD b c = false := by simpa using hd
        replace hfc := Lib.hid (hfc.out hdf)
        have hno : M2.digZ r < 0 ∨ (b : Int) ≤ M2.digZ r := by
          rcases Nat.lt_or_ge c.toNat 128 with h1 | h1
          · have hrw := hlo h1
            simp only [Prod.mk.injEq] at hrw
            obtain ⟨rfl, rfl⟩ := hrw
            exact M2.isD_no hdf
          · have h2 := hhi h1
            rw [M2.digZ_big _ (by omega)]
            omega
        have hdz := M2.digZ_bd r
        clear hal hva hfm hlo hhi hd hdf hdzb hpk
        rcases hno with hno | hno
        · go_wp2_with (go_at_call 198; refine (refsDigit _ _).mono ?_; rintro e w2 ⟨rfl, rfl⟩)
          go_ret2
          rw [hfc.out, hlk]
          exact ⟨rfl, hbw1⟩
        · have h0 : decide (M2.digZ r < 0) = false := decide_eq_false (by omega)
          go_wp2_with (go_at_call 198; refine (refsDigit _ _).mono ?_; rintro e w2 ⟨rfl, rfl⟩)
          go_ret2
          rw [hfc.out, hlk]
          exact ⟨rfl, hbw1⟩
    · have hnx := fun ty => Lib.run_next_end_at (P := Tryz.prog) wr w.heap.size s k ty hit (by omega)
      have hfin := Lib.hid (hfin (Or.inr (Or.inl (by omega))))
      go_wp2
      go_ret2
      rw [hfin.out, hlk]
      exact ⟨rfl, hbw⟩
def ans (o : Option (Int × Nat)) : Value := .tuple #[.int .i32 ((o.map (·.1)).getD 0), .int .i64 (((o.map (·.2)).getD 0 : Nat) : Int)]
theorem ans_mk (o : Option (Int × Nat)) : ∃ x y, ans o = .tuple #[.int .i32 x, .int .i64 y] := ⟨_, _, rfl⟩
theorem ans_none : ans none = .tuple #[.int .i32 0, .int .i64 0] := rfl
theorem ans_some (r : Int) (n : Nat) : ans (some (r, n)) = .tuple #[.int .i32 r, .int .i64 (n : Int)] := rfl
set_option maxHeartbeats 2000000 in
set_option maxRecDepth 100000 in
theorem refsNumbered (s : ByteArray) (f b m : Nat) (w : World) (hf : f ≤ s.size) (hb0 : 1 ≤ b) (hb : b ≤ 16) (hm : m ≤ 7) (hpow : ∀ k, k ≤ m → ((b : Int)) ^ k ≤ 16777216) (hs : s.size ≤ 1073741824) :
    Calls Tryz.prog 188 #[.string s, .int .i64 (f : Int), .int .i32 (b : Int), .int .i64 (m : Int)] w fun e w' => e = .returned (ans (M2.num f b m s.data.toList)) ∧ Below w.heap.size w w' := by
  have hsz : s.size = s.data.toList.length := rfl
  have hN := refsNumber (s.extract f s.size) b m w hb0 hb hm hpow (by rw [ByteArray.size_extract]; omega)
  rw [extract_end] at hN
  have hdl := M2.digs_len b m (s.data.toList.drop f)
  rw [List.length_drop] at hdl
  have hbd := M2.val_bd b _ (M2.digs_all b m (s.data.toList.drop f))
  have hpk := hpow _ hdl.1
  have hnum := Lib.hid (rfl : M2.num f b m s.data.toList = M2.num f b m s.data.toList)
  replace hnum : Hid (M2.num f b m s.data.toList = if (M2.digs b m (s.data.toList.drop f)).length = 0 ∨ s.data.toList[f + (M2.digs b m (s.data.toList.drop f)).length]? ≠ some 59 then none
    else some (M2.chr (M2.val b (M2.digs b m (s.data.toList.drop f))), f + (M2.digs b m (s.data.toList.drop f)).length + 1)) := rfl
  generalize M2.digs b m (s.data.toList.drop f) = ds at *
  generalize M2.num f b m s.data.toList = R at *
  generalize M2.val b ds = v at *
  generalize ds.length = k at *
  replace hN := Lib.hid hN
  clear hpow
  by_cases hk : k = 0
  · have hR := Lib.hid (hnum.out.trans (if_pos (Or.inl hk)))
    clear hnum hsz
    subst hk
    go_enter Tryz.func188, Tryz.ntmps188
    go_wp2_with (go_at_call 195; refine hN.out.mono ?_; rintro e w1 ⟨rfl, hb1⟩)
    go_ret2
    rw [hR.out, ans_none]
    exact ⟨rfl, hb1⟩
  by_cases he : f + k = s.size
  · have hR := Lib.hid (hnum.out.trans (if_pos (Or.inr (by rw [List.getElem?_eq_none (by omega)]; simp))))
    have hkb : ((k : Int) == 0) = false := by simpa using hk
    have heb : ((f : Int) + (k : Int) == (s.size : Int)) = true := by simpa using (by omega : (f : Int) + (k : Int) = (s.size : Int))
    clear hnum hk he hsz
    go_enter Tryz.func188, Tryz.ntmps188
    go_wp2_with (go_at_call 195; refine hN.out.mono ?_; rintro e w1 ⟨rfl, hb1⟩)
    go_ret2
    rw [hR.out, ans_none]
    exact ⟨rfl, hb1⟩
  have hlt : f + k < s.size := by omega
  have hgt : s.data.toList[f + k]? = some s[f + k] := by
    rw [List.getElem?_eq_getElem (by omega)]
    rfl
  rw [hgt] at hnum
  have hkb : ((k : Int) == 0) = false := by simpa using hk
  have heb : ((f : Int) + (k : Int) == (s.size : Int)) = false := by simpa using (by omega : ¬ (f : Int) + (k : Int) = (s.size : Int))
  by_cases h59 : s[f + k] = 59
  · have hR := Lib.hid (hnum.out.trans (if_neg (by rw [h59]; simp [hk])))
    clear hnum hk he hgt hsz
    go_enter Tryz.func188, Tryz.ntmps188
    go_wp2_with (go_at_call 195; refine hN.out.mono ?_; rintro e w1 ⟨rfl, hb1⟩)
    go_wp2_with (go_at_call 196; refine (refsCharacter _ _).mono ?_; rintro e w2 ⟨rfl, rfl⟩)
    go_ret2
    rw [hR.out, ans_some]
    exact ⟨rfl, hb1⟩
  · have hR := Lib.hid (hnum.out.trans (if_pos (Or.inr (by simpa using h59))))
    have hne : ((s[f + k].toNat : Int) != 59) = true := by
      rw [bne_iff_ne]; intro h; exact h59 (UInt8.toNat_inj.1 (by simpa using (by omega : s[f + k].toNat = 59)))
    clear hnum hk he hgt hsz h59
    go_enter Tryz.func188, Tryz.ntmps188
    go_wp2_with (go_at_call 195; refine hN.out.mono ?_; rintro e w1 ⟨rfl, hb1⟩)
    go_ret2
    rw [hR.out, ans_none]
    exact ⟨rfl, hb1⟩
theorem names_look {w : World} {b : Nat} (h : Names w b) (s : ByteArray) (hs : s.size ≤ 1073741824) :
    (Instr.lookup 173 (.map (some b)) (.string s) true).run Tryz.prog w = .ok (.tuple #[.int .i32 (((M2.nm s.data.toList).getD 0 : Nat) : Int), .bool (M2.nm s.data.toList).isSome]) w := by
  have := look_ok_int h lawS Tryz.underlying173 Tryz.underlying21 (zero32 w) (WideMaps.keyOf_string_mk Tryz.underlying9 (s := s) (by unfold maxLen; omega)) (names_at s.data.toList)
  rw [names_has] at this
  exact this
set_option maxHeartbeats 2000000 in
set_option maxRecDepth 100000 in
theorem refsNamed (s : ByteArray) (b : Nat) (w : World) (hN : Names w b) (h1 : 1 ≤ s.size) (hs : s.size ≤ 1073741824) :
    Calls Tryz.prog 189 #[.string s, .map (some b)] w fun e w' => e = .returned (ans (M2.named s.data.toList)) ∧ w' = w := by
  have hnear : (s.extract 1 (min (s.size : Int) 8).toNat).data.toList = M2.near s.data.toList := by
    rw [Lib.extract_data, show (min (s.size : Int) 8).toNat = min s.size 8 by omega]
    unfold M2.near
    have : s.data.toList.length = s.size := rfl
    rcases Nat.le_total s.size 8 with h | h
    · rw [Nat.min_eq_left h, List.take_of_length_le (by rw [List.length_drop]; omega), List.take_of_length_le (by rw [List.length_drop]; omega)]
    · rw [Nat.min_eq_right h]
  have hnsz : (s.extract 1 (min (s.size : Int) 8).toNat).size ≤ 7 := by rw [ByteArray.size_extract]; omega
  generalize hR : M2.named s.data.toList = R
  unfold M2.named at hR
  rw [← hnear] at hR
  replace hR := Lib.hid hR
  clear hnear
  go_enter Tryz.func189, Tryz.ntmps189
  go_wp2_with fail
  generalize s.extract 1 (min (s.size : Int) 8).toNat = nr at *
  refine (sIndexByte nr 59 w).mono ?_
  rintro e w' ⟨rfl, rfl⟩
  rw [show (59 : Int).toNat.toUInt8 = 59 from rfl]
  have hge := Lib.indexByte_ge nr.data.toList 59
  have hat := fun (o : Nat) (h : Lib.indexByte nr.data.toList 59 = o) => (List.getElem?_eq_some_iff.1 (Lib.indexByte_some h).1).1
  generalize Lib.indexByte nr.data.toList 59 = i at *
  by_cases hi : i < 0
  · have hR2 := Lib.hid (hR.out.symm.trans (if_pos hi))
    clear hR hat
    go_wp2
    go_ret2
    rw [hR2.out, ans_none]
    exact ⟨rfl, rfl⟩
  · obtain ⟨k, rfl⟩ : ∃ k : Nat, i = k := ⟨i.toNat, by omega⟩
    have hk : k < nr.size := hat k rfl
    have hR2 := hR.out.symm.trans (if_neg hi)
    clear hR hat
    have hl := names_look hN (nr.extract 0 k) (by rw [ByteArray.size_extract]; omega)
    have hx : (nr.extract 0 k).data.toList = nr.data.toList.take k := by rw [Lib.extract_data]; simp
    rw [hx] at hl
    rw [Int.toNat_natCast] at hR2
    cases hq : M2.nm (nr.data.toList.take k) with
    | none =>
      rw [hq] at hl hR2
      simp only [Option.getD_none, Option.isSome_none] at hl
      replace hR2 := Lib.hid (show R = none from hR2)
      clear hx hq hi
      go_wp2
      go_ret2
      rw [hR2.out, ans_none]
      exact ⟨rfl, rfl⟩
    | some n =>
      rw [hq] at hl hR2
      simp only [Option.getD_some, Option.isSome_some] at hl
      replace hR2 := Lib.hid (show R = some ((n : Int), 1 + k + 1) from hR2)
      clear hx hq hi
      go_wp2
      go_ret2
      rw [hR2.out, ans_some]
      exact ⟨rfl, rfl⟩
theorem hp_of {s : ByteArray} (p : List UInt8) (q : Bool) (h : decide (s.data.toList.take p.length = p) = q) : Lib.hasPrefix s.data.toList p = q := by
  rw [← h, Bool.eq_iff_iff, decide_eq_true_iff, Lib.hasPrefix, List.isPrefixOf_iff_prefix, List.prefix_iff_eq_take]
  exact eq_comm
set_option maxHeartbeats 2000000 in
set_option maxRecDepth 100000 in
theorem refsOne' (s : ByteArray) (b : Nat) (w : World) (hN : Names w b) (h38 : s.data.toList.head? = some 38) (hs : s.size ≤ 1073741824) :
    Calls Tryz.prog 178 #[.string s, .map (some b)] w fun e w' => e = .returned (ans (M2.one s.data.toList)) ∧ Below w.heap.size w w' := by
  have h1 : 1 ≤ s.size := by
    have : s.data.toList.length = s.size := rfl
    cases hl : s.data.toList with
    | nil => rw [hl] at h38; cases h38
    | cons c t => rw [hl] at this; simp at this; omega
  have hone : M2.one s.data.toList = if s.data.toList.take 3 = [38, 35, 120] ∨ s.data.toList.take 3 = [38, 35, 88] then M2.num 3 16 6 s.data.toList
      else if s.data.toList.take 2 = [38, 35] then M2.num 2 10 7 s.data.toList else M2.named s.data.toList := by
    unfold M2.one
    rw [if_neg (by simp [h38])]
  have len := fun (k : Nat) (p : List UInt8) (h : s.data.toList.take k = p) (hp : p.length = k) => (by
    have := congrArg List.length h
    rw [List.length_take, hp] at this
    have e : s.data.toList.length = s.size := rfl
    omega : k ≤ s.size)
  have H16 : 3 ≤ s.size → Calls Tryz.prog 188 #[.string s, .int .i64 3, .int .i32 16, .int .i64 6] w fun e w' => e = .returned (ans (M2.num 3 16 6 s.data.toList)) ∧ Below w.heap.size w w' := fun h => refsNumbered s 3 16 6 w h (by omega) (by omega) (by omega) (by decide) hs
  have H10 : 2 ≤ s.size → Calls Tryz.prog 188 #[.string s, .int .i64 2, .int .i32 10, .int .i64 7] w fun e w' => e = .returned (ans (M2.num 2 10 7 s.data.toList)) ∧ Below w.heap.size w w' := fun h => refsNumbered s 2 10 7 w h (by omega) (by omega) (by omega) (by decide) hs
  have HN := refsNamed s b w hN h1 hs
  have px := hp_of (s := s) [38, 35, 120]
  have pX := hp_of (s := s) [38, 35, 88]
  have p2 := hp_of (s := s) [38, 35]
  simp only [List.length_cons, List.length_nil] at px pX p2
  generalize M2.one s.data.toList = R at *
  clear h38 hN
  obtain ⟨x16, y16, e16⟩ := ans_mk (M2.num 3 16 6 s.data.toList)
  obtain ⟨x10, y10, e10⟩ := ans_mk (M2.num 2 10 7 s.data.toList)
  obtain ⟨xn, yn, en⟩ := ans_mk (M2.named s.data.toList)
  rw [e16] at H16
  rw [e10] at H10
  rw [en] at HN
  by_cases c1 : s.data.toList.take 3 = [38, 35, 120]
  · have hR := Lib.hid ((congrArg ans (hone.trans (if_pos (Or.inl c1)))).trans e16)
    have q1 := px true (decide_eq_true c1)
    have H := Lib.hid (H16 (len 3 _ c1 rfl))
    clear hone len H16 H10 HN px pX p2 c1 e16 e10 en
    go_enter Tryz.func178, Tryz.ntmps178
    go_wp2_with (first | (go_at_call 104; refine (hasPrefix_any _ _ _).mono ?_; rintro e w1 ⟨rfl, rfl⟩) | (go_at_call 188; refine H.out.mono ?_; rintro e w2 ⟨rfl, hb⟩))
    go_ret2
    exact ⟨by rw [hR.out]; rfl, hb⟩
  have q1 := px false (decide_eq_false c1)
  by_cases c2 : s.data.toList.take 3 = [38, 35, 88]
  · have hR := Lib.hid ((congrArg ans (hone.trans (if_pos (Or.inr c2)))).trans e16)
    have q2 := pX true (decide_eq_true c2)
    have H := Lib.hid (H16 (len 3 _ c2 rfl))
    clear hone len H16 H10 HN px pX p2 c1 c2 e16 e10 en
    go_enter Tryz.func178, Tryz.ntmps178
    go_wp2_with (first | (go_at_call 104; refine (hasPrefix_any _ _ _).mono ?_; rintro e w1 ⟨rfl, rfl⟩) | (go_at_call 188; refine H.out.mono ?_; rintro e w2 ⟨rfl, hb⟩))
    go_ret2
    exact ⟨by rw [hR.out]; rfl, hb⟩
  have q2 := pX false (decide_eq_false c2)
  rw [if_neg (by rintro (h | h); exact c1 h; exact c2 h)] at hone
  by_cases c3 : s.data.toList.take 2 = [38, 35]
  · have hR := Lib.hid ((congrArg ans (hone.trans (if_pos c3))).trans e10)
    have q3 := p2 true (decide_eq_true c3)
    have H := Lib.hid (H10 (len 2 _ c3 rfl))
    clear hone len H16 H10 HN px pX p2 c1 c2 c3 e16 e10 en
    go_enter Tryz.func178, Tryz.ntmps178
    go_wp2_with (first | (go_at_call 104; refine (hasPrefix_any _ _ _).mono ?_; rintro e w1 ⟨rfl, rfl⟩) | (go_at_call 188; refine H.out.mono ?_; rintro e w2 ⟨rfl, hb⟩))
    go_ret2
    exact ⟨by rw [hR.out]; rfl, hb⟩
  · have hR := Lib.hid ((congrArg ans (hone.trans (if_neg c3))).trans en)
    have q3 := p2 false (decide_eq_false c3)
    have H := Lib.hid HN
    clear hone len H16 H10 HN px pX p2 c1 c2 c3 e16 e10 en
    go_enter Tryz.func178, Tryz.ntmps178
    go_wp2_with (first | (go_at_call 104; refine (hasPrefix_any _ _ _).mono ?_; rintro e w1 ⟨rfl, rfl⟩) | (go_at_call 189; refine H.out.mono ?_; rintro e w2 ⟨rfl, rfl⟩))
    go_ret2
    exact ⟨by rw [hR.out]; rfl, Below.refl _ _⟩
end Go.Proofs.YteefodibpjgicaaGreat

namespace Go.Proofs.YteefodibpjgicaaGreat
open Go.RowKit Go.Maps Go.WideShapes
theorem names_keep {w w' : World} {b B : Nat} (h : Names w b) (hb : Below B w w') (hlt : b < B) : Names w' b := by
  obtain ⟨es, clock, h1, h2⟩ := h
  exact ⟨es, clock, by rw [hb.block b hlt]; exact h1, h2⟩
theorem grown_below {w w' : World} (hb : Below w.heap.size w w') : w.grownBy w' none := ⟨hb.os, hb.tape, hb.output, hb.size, fun k hk _ => hb.block k hk⟩
theorem bldrAt_below {T e : TypeId} {B b : Nat} {p : Value} {bs : List Value} {w w' : World} (h : Lib.BuilderAtF T e B b p bs w) (hb : Below w.heap.size w w') : Lib.BuilderAtF T e B b p bs w' := by
  have hlt := h.lt
  obtain ⟨hB, v, hbk, hown, hne⟩ := h
  refine ⟨hB, v, by rw [hb.block b hlt]; exact hbk, hown.kept (grown_below hb) (by cases v.ownBlock <;> simp), hne⟩
def strSz : Value → Nat
  | .string s => s.size
  | _ => 0
set_option maxHeartbeats 4000000 in
set_option maxRecDepth 100000 in
theorem refsDecode (s : ByteArray) (w : World) (hs : s.size ≤ 1073741824) :
    Calls Tryz.prog 167 #[.string s] w fun e w' => e = .returned (.string ⟨(M2.decode s.data.toList).toArray⟩) ∧ Below w.heap.size w w' := by
  by_cases hc : (38 : UInt8) ∈ s.data.toList
  · have hge : decide (0 ≤ Lib.indexByte s.data.toList 38) = true := by
      refine decide_eq_true ?_
      have h1 := Lib.indexByte_ge s.data.toList 38
      rcases Int.lt_or_le (Lib.indexByte s.data.toList 38) 0 with h2 | h2
      · exfalso
        obtain ⟨k, hk⟩ := List.getElem?_of_mem hc
        exact Lib.indexByte_none (by omega) k hk
      · exact h2
    clear hc
    generalize hD : M2.decode s.data.toList = D
    replace hD := Lib.hid hD
    go_enter Tryz.func167, Tryz.ntmps167
    go_wp2_with fail
    refine (sContains1 s 38 w).mono ?_
    rintro e w0 ⟨rfl, rfl⟩
    rw [hge]
    clear hge
    go_wp2_with fail
    refine (refsNames _).mono ?_
    rintro e w1 ⟨b, rfl, hN, b1⟩
    have hblt := hN.lt
    go_wp2
    go_loopw [0] (fun u0 wr => ∃ (t : ByteArray) (acc : List UInt8), u0 = .string t ∧ t.size ≤ s.size ∧ acc.length ≤ 4 * (s.size - t.size) ∧ Lib.IsBuilderF 120 5 w1.heap.size w1.heap.size (u8s acc) wr ∧ Names wr b ∧ Below w1.heap.size w1 wr ∧ Hid (D = acc ++ M2.decode t.data.toList)) (fun u0 _ => strSz u0)
    case atStart =>
      exact ⟨s, [], rfl, by omega, by simp, Lib.IsBuilderF.of (Lib.fresh_isBuilder 120 5 w1), hN.alloc _, (Below.refl _ w1).alloc (Nat.le_refl _) _, hD.out.symm⟩
    case round =>
      obtain ⟨t, acc, rfl, htl, hal, hI, hNr, hbr, hacc⟩ := hrel
      have htz : t.data.toList.length = t.size := rfl
      have hge := Lib.indexByte_ge t.data.toList 38
      have hno := Lib.indexByte_none (l := t.data.toList) (c := 38)
      have hso := fun o => Lib.indexByte_some (l := t.data.toList) (c := 38) (o := o)
      have hB := hbr.size
      go_wp2_with fail
      refine (sIndexByte t 38 wr).mono ?_
      rintro e w' ⟨rfl, rfl⟩
      rw [show (38 : Int).toNat.toUInt8 = 38 from rfl]
      generalize Lib.indexByte t.data.toList 38 = i at *
      by_cases hi : i < 0
      · have h38 : (38 : UInt8) ∉ t.data.toList := fun hm => by
          obtain ⟨k, hk⟩ := List.getElem?_of_mem hm
          exact hno (by omega) k hk
        have hd := Lib.hid (hacc.out.trans (congrArg (acc ++ ·) (M2.decode_self _ h38)))
        clear hno hso h38 hacc htz hge
        go_wp2_with fail
        refine (bWriteString w1.heap.size w1.heap.size (u8s acc) t _ hI (by rw [u8s_length]; omega) hB).mono ?_
        rintro e w2 ⟨rfl, hI2, b2, k2⟩
        have hI3 : Lib.IsBuilderF 120 5 w1.heap.size w1.heap.size (u8s (acc ++ t.data.toList)) w2 := by rw [u8s_append]; exact Or.inr hI2
        have hz2 := b2.size
        go_wp2_with fail
        refine (bString w1.heap.size w1.heap.size _ w2 hI3 (by omega)).mono ?_
        rintro e w3 ⟨rfl, _, b3, _⟩
        go_wp2
        go_ret
        rw [hd.out]
        exact ⟨rfl, bt b1 ((hbr.trans b2).trans b3)⟩
      · obtain ⟨k, rfl⟩ : ∃ k : Nat, i = k := ⟨i.toNat, by omega⟩
        obtain ⟨hk1, hk2⟩ := hso k rfl
        have hk : k < t.size := (List.getElem?_eq_some_iff.1 hk1).1
        have hpast : M2.decode t.data.toList = t.data.toList.take k ++ M2.decode (t.data.toList.drop k) := by
          conv => lhs; rw [← List.take_append_drop k t.data.toList]
          refine M2.decode_past _ _ (fun hm => ?_)
          obtain ⟨j, hj, hj2⟩ := List.getElem_of_mem hm
          have hj1 : j < k := by rw [List.length_take] at hj; omega
          refine hk2 j hj1 ?_
          rw [← hj2, List.getElem_take, List.getElem?_eq_getElem]
        have hhd : (t.data.toList.drop k).head? = some 38 := by rw [List.head?_drop]; exact hk1
        clear hno hso hge hk1 hk2 hi
        have x0 : (t.extract 0 k).data.toList = t.data.toList.take k := by rw [Lib.extract_data]; simp
        have x1 : (t.extract k t.size).data.toList = t.data.toList.drop k := extract_end t k
        have z0 : (t.extract 0 k).size = k := by rw [ByteArray.size_extract]; omega
        have z1 : (t.extract k t.size).size = t.size - k := by rw [ByteArray.size_extract]; omega
        rw [← x1] at hhd hpast
        rw [← x0] at hpast
        replace hacc := Lib.hid (hacc.out.trans (congrArg (acc ++ ·) hpast))
        replace hhd := Lib.hid hhd
        replace x0 := Lib.hid x0
        have z0 := Lib.hid z0
        have z1 := Lib.hid z1
        have hrest : ∃ (r : Int) (n : Nat), (r = 38 ∧ n = 1 ∧ M2.one (t.extract k t.size).data.toList = none ∨ M2.one (t.extract k t.size).data.toList = some (r, n)) ∧ 0 ≤ r ∧ r ≤ 1114111 ∧ 1 ≤ n ∧ n ≤ t.size - k ∧ M2.decode (t.extract k t.size).data.toList = M1.enc r ++ M2.decode ((t.extract k t.size).data.toList.drop n) := by
          have hlen : (t.extract k t.size).data.toList.length = t.size - k := z1.out
          cases ho : M2.one (t.extract k t.size).data.toList with
          | none =>
            refine ⟨38, 1, Or.inl ⟨rfl, rfl, rfl⟩, by omega, by omega, by omega, by omega, ?_⟩
            have h := hhd.out
            generalize (t.extract k t.size).data.toList = u at *
            cases u with
            | nil => cases h
            | cons c u =>
              simp at h
              subst h
              rw [M2.decode_byte ho, show M1.enc 38 = [38] by decide]
              rfl
          | some p =>
            obtain ⟨r, n⟩ := p
            have hb := M2.one_bd ho
            have hok := hb.2.2.1
            unfold M1.okRune at hok
            exact ⟨r, n, Or.inr rfl, by omega, by omega, by omega, by omega, M2.decode_ref ho⟩
        obtain ⟨r, n, hone, hr0, hr1, hn1, hn2, hdec⟩ := hrest
        have hone := Lib.hid hone
        replace hacc := Lib.hid (hacc.out.trans (congrArg (fun x => acc ++ ((t.extract 0 k).data.toList ++ x)) hdec))
        clear hpast x1 hdec
        rename_i z0' z1' hone'
        clear z0' z1' hone'
        go_wp2_with fail
        refine (bWriteString w1.heap.size w1.heap.size (u8s acc) (t.extract 0 k) _ hI (by rw [u8s_length, z0.out]; omega) hB).mono ?_
        rintro e w2 ⟨rfl, hI2, b2, k2⟩
        have hI3 : Lib.BuilderAtF 120 5 w1.heap.size w1.heap.size (.pointer (some ⟨w1.heap.size, 0, none⟩)) (u8s (acc ++ (t.extract 0 k).data.toList)) w2 := by rw [u8s_append]; exact hI2
        have hN2 := names_keep hNr b2 hblt
        have B2 := hbr.trans b2
        have hz2 := B2.size
        clear hI2 k2 b2
        have hal2 : (acc ++ (t.extract 0 k).data.toList).length ≤ acc.length + k := by
          have e : (t.extract 0 k).data.toList.length = k := z0.out
          rw [List.length_append, e]
          exact Nat.le_refl _
        have htb : (t.extract k t.size).size ≤ 1073741824 := by rw [z1.out]; omega
        have hacc2 : Hid (D = (acc ++ (t.extract 0 k).data.toList ++ M1.enc r) ++ M2.decode ((t.extract k t.size).data.toList.drop n)) := by
          show _ = _
          rw [hacc.out]
          simp
        have hz1 := z1.out
        clear hacc z0 z1 x0
        generalize acc ++ (t.extract 0 k).data.toList = acc2 at *
        go_wp2_with fail
        refine (refsOne' (t.extract k t.size) b w2 hN2 hhd.out htb).mono ?_
        rintro e w3 ⟨rfl, b3⟩
        generalize t.extract k t.size = tb at *
        have hI4 := bldrAt_below hI3 b3
        have hN3 := ownsMap_below hN2 b3
        have B3 := B2.trans (b3.mono hz2)
        have hz3 := B3.size
        have xn : (tb.extract n tb.size).data.toList = tb.data.toList.drop n := extract_end tb n
        have zn : Hid ((tb.extract n tb.size).size = t.size - k - n) := by
          show _ = _
          rw [ByteArray.size_extract]; omega
        rw [← xn] at hacc2
        have hntb : n ≤ tb.size := by omega
        have hel := M2.enc_len_le r
        replace hz1 := Lib.hid hz1
        clear hI3 hN2 B2 hz2 b3 xn
        have fin : ∀ w4, Lib.BuilderAtF 120 5 w1.heap.size w1.heap.size (.pointer (some ⟨w1.heap.size, 0, none⟩)) (u8s acc2 ++ Lib.runeCells r) w4 → Below w1.heap.size w3 w4 →
            ∃ (t' : ByteArray) (acc' : List UInt8), Value.string (tb.extract n tb.size) = .string t' ∧ t'.size ≤ s.size ∧ acc'.length ≤ 4 * (s.size - t'.size) ∧ Lib.IsBuilderF 120 5 w1.heap.size w1.heap.size (u8s acc') w4 ∧ Names w4 b ∧ Below w1.heap.size w1 w4 ∧ Hid (D = acc' ++ M2.decode t'.data.toList) := by
          intro w4 hI5 b4
          refine ⟨_, acc2 ++ M1.enc r, rfl, by rw [zn.out]; omega, by rw [zn.out, List.length_append]; omega, ?_, names_keep hN3 b4 hblt, B3.trans b4, hacc2.out⟩
          rw [u8s_append, show u8s (M1.enc r) = Lib.runeCells r from Lib.byteCells_encodeRune r]
          exact Or.inr hI5
        replace fin := Lib.hid fin
        have hWR := fun (x : Int) (h1 : 0 ≤ x) (h2 : x ≤ 1114111) => bWriteRune w1.heap.size w1.heap.size (u8s acc2) x (by omega) (by omega) w3 (Or.inr hI4) (by rw [u8s_length]; omega) hz3
        replace hWR := Lib.hid hWR
        rcases hone.out with ⟨rfl, rfl, ho⟩ | ho
        · rw [ho, ans_none]
          clear ho hone
          go_wp2_with fail
          refine (hWR.out 38 (by omega) (by omega)).mono ?_
          rintro e w4 ⟨rfl, hI5, b4, k4⟩
          have F := Lib.hid (fin.out w4 hI5 b4)
          go_wp2
          go_roundw
          case rel => exact F.out
          case measure => have hz1' := hz1.out; simp [strSz]; omega
        · rw [ho, ans_some]
          have hn0 : ((n : Int) == 0) = false := by simp; omega
          clear ho hone
          go_wp2_with fail
          refine (hWR.out r hr0 hr1).mono ?_
          rintro e w4 ⟨rfl, hI5, b4, k4⟩
          have F := Lib.hid (fin.out w4 hI5 b4)
          go_wp2
          go_roundw
          case rel => exact F.out
          case measure => have hz1' := hz1.out; simp [strSz]; omega
  · have hge : decide (0 ≤ Lib.indexByte s.data.toList 38) = false := by
      refine decide_eq_false ?_
      rw [M2.indexByte_no _ _ hc]
      omega
    rw [M2.decode_self _ hc]
    clear hc
    go_enter Tryz.func167, Tryz.ntmps167
    go_wp2_with fail
    refine (sContains1 s 38 w).mono ?_
    rintro e w0 ⟨rfl, rfl⟩
    rw [hge]
    clear hge
    go_wp2_with fail
    refine (sClone s _ (by omega)).mono ?_
    rintro e w1 ⟨rfl, b1⟩
    go_wp2
    go_ret
    exact ⟨rfl, b1⟩
set_option maxHeartbeats 4000000 in
set_option maxRecDepth 100000 in
theorem refsEscape (s : ByteArray) (v : Bool) (w : World) (hs : s.size ≤ 1073741824) :
    Calls Tryz.prog 119 #[.string s, .bool v] w fun e w' => e = .returned (.string ⟨(M2.escape v s.data.toList).toArray⟩) ∧ Below w.heap.size w w' := by
  go_enter Tryz.func119, Tryz.ntmps119
  go_wp2
  go_loopw [10] (fun i wr => ∃ k : Nat, k ≤ s.size ∧ i = .int .i64 k ∧ Lib.IsBuilderF 120 5 w.heap.size w.heap.size (u8s (M2.escape v (s.data.toList.take k))) wr ∧ Below w.heap.size w wr) (fun i _ => s.size - (intOf i).toNat)
  case atStart =>
    exact ⟨0, by omega, rfl, Lib.IsBuilderF.of (Lib.fresh_isBuilder 120 5 w), (Below.refl _ w).alloc (Nat.le_refl _) _⟩
  case round =>
    obtain ⟨k, hk, rfl, hI, hbw⟩ := hrel
    have hle := M2.escape_len v (s.data.toList.take k)
    have hlt1 : (s.data.toList.take k).length ≤ k := List.length_take_le _ _
    have hB := hbw.size
    by_cases hlt : k < s.size
    · have htk : M2.escape v (s.data.toList.take (k + 1)) = M2.escape v (s.data.toList.take k) ++ M2.esc v s[k] := by
        rw [show s.data.toList.take (k + 1) = s.data.toList.take k ++ [s[k]] from List.take_succ_eq_append_getElem (l := s.data.toList) hlt, M2.escape_append]
        simp [M2.escape]
      have fin : ∀ (add : List UInt8) w2, M2.esc v s[k] = add → Lib.BuilderAtF 120 5 w.heap.size w.heap.size (.pointer (some ⟨w.heap.size, 0, none⟩)) (u8s (M2.escape v (s.data.toList.take k)) ++ u8s add) w2 → Below w.heap.size wr w2 →
          ∃ j : Nat, j ≤ s.size ∧ Value.int .i64 ((k : Int) + 1) = .int .i64 j ∧ Lib.IsBuilderF 120 5 w.heap.size w.heap.size (u8s (M2.escape v (s.data.toList.take j))) w2 ∧ Below w.heap.size w w2 := by
        intro add w2 h1 h2 h3
        refine ⟨k + 1, by omega, by go_num, ?_, hbw.trans h3⟩
        rw [htk, u8s_append, h1]
        exact Or.inr h2
      replace fin := Lib.hid fin
      have hWS := fun (x : List UInt8) (h : x.length ≤ 6) => bWriteString w.heap.size w.heap.size (u8s (M2.escape v (s.data.toList.take k))) ⟨x.toArray⟩ wr hI (by rw [u8s_length]; show _ + x.length ≤ _; omega) hB
      have hWB := fun (x : Int) => bWriteByte w.heap.size w.heap.size (u8s (M2.escape v (s.data.toList.take k))) x wr hI (by rw [u8s_length]; omega) hB
      replace hWS := Lib.hid hWS
      replace hWB := Lib.hid hWB
      clear htk hI hle hlt1
      by_cases h38 : s[k] = 38
      · have F := Lib.hid (fin.out [38, 97, 109, 112, 59] · (by rw [h38]; rfl))
        clear fin hWB
        go_wp2_with fail
        refine (hWS.out [38, 97, 109, 112, 59] (by decide)).mono ?_
        rintro e w2 ⟨rfl, hI2, b2, k2⟩
        replace F := Lib.hid (F.out w2 hI2 b2)
        go_wp2
        go_roundw
        case rel => exact F.out
        case measure => simp [intOf]; omega
      have h38b : ((s[k].toNat : Int) == 38) = false := by simp; intro e; exact h38 (UInt8.toNat_inj.1 (by simpa using (by omega : s[k].toNat = 38)))
      by_cases h60 : s[k] = 60
      · have F := Lib.hid (fin.out [38, 108, 116, 59] · (by rw [h60]; rfl))
        clear fin hWB h38
        go_wp2_with fail
        refine (hWS.out [38, 108, 116, 59] (by decide)).mono ?_
        rintro e w2 ⟨rfl, hI2, b2, k2⟩
        replace F := Lib.hid (F.out w2 hI2 b2)
        go_wp2
        go_roundw
        case rel => exact F.out
        case measure => simp [intOf]; omega
      have h60b : ((s[k].toNat : Int) == 60) = false := by simp; intro e; exact h60 (UInt8.toNat_inj.1 (by simpa using (by omega : s[k].toNat = 60)))
      by_cases h62 : s[k] = 62
      · have F := Lib.hid (fin.out [38, 103, 116, 59] · (by rw [h62]; rfl))
        clear fin hWB h38 h60
        go_wp2_with fail
        refine (hWS.out [38, 103, 116, 59] (by decide)).mono ?_
        rintro e w2 ⟨rfl, hI2, b2, k2⟩
        replace F := Lib.hid (F.out w2 hI2 b2)
        go_wp2
        go_roundw
        case rel => exact F.out
        case measure => simp [intOf]; omega
      have h62b : ((s[k].toNat : Int) == 62) = false := by simp; intro e; exact h62 (UInt8.toNat_inj.1 (by simpa using (by omega : s[k].toNat = 62)))
      by_cases h34 : s[k] = 34
      · cases v
        · have F := Lib.hid (fin.out [34] · (by rw [h34]; rfl))
          clear fin hWS h38 h60 h62
          go_wp2_with fail
          refine (hWB.out 34).mono ?_
          rintro e w2 ⟨rfl, hI2, b2, k2⟩
          replace F := Lib.hid (F.out w2 hI2 b2)
          go_wp2
          go_roundw
          case rel => exact F.out
          case measure => simp [intOf]; omega
        · have F := Lib.hid (fin.out [38, 113, 117, 111, 116, 59] · (by rw [h34]; rfl))
          clear fin hWB h38 h60 h62
          go_wp2_with fail
          refine (hWS.out [38, 113, 117, 111, 116, 59] (by decide)).mono ?_
          rintro e w2 ⟨rfl, hI2, b2, k2⟩
          replace F := Lib.hid (F.out w2 hI2 b2)
          go_wp2
          go_roundw
          case rel => exact F.out
          case measure => simp [intOf]; omega
      have h34b : ((s[k].toNat : Int) == 34) = false := by simp; intro e; exact h34 (UInt8.toNat_inj.1 (by simpa using (by omega : s[k].toNat = 34)))
      have F := Lib.hid (fin.out [s[k]] · (by rw [M2.esc, if_neg h38, if_neg h60, if_neg h62, if_neg (fun e => h34 e.1)]))
      clear fin hWS h38 h60 h62 h34
      go_wp2_with fail
      refine (hWB.out (s[k].toNat : Int)).mono ?_
      rintro e w2 ⟨rfl, hI2, b2, k2⟩
      replace F := Lib.hid (F.out w2 hI2 b2)
      go_wp2
      go_roundw
      case rel => exact F.out
      case measure => simp [intOf]; omega
    · go_wp2_with fail
      refine (bString w.heap.size w.heap.size _ _ hI hB).mono ?_
      rintro e W1 ⟨rfl, _, b1, _⟩
      go_wp2
      go_ret
      rw [List.take_of_length_le (show s.data.toList.length ≤ k from by have : s.data.toList.length = s.size := rfl; omega)]
      exact ⟨rfl, hbw.trans b1⟩
end Go.Proofs.YteefodibpjgicaaGreat

namespace Go.Proofs.YteefodibpjgicaaGreat
open Go.RowKit
def txtN (l : List Nd) : Nat := (l.map fun x => x.text.size).sum
theorem txtN_cons (x : Nd) (l : List Nd) : txtN (x :: l) = x.text.size + txtN l := by simp [txtN]
theorem txtN_mem {l : List Nd} {x : Nd} (h : x ∈ l) : x.text.size ≤ txtN l := by
  induction l with
  | nil => cases h
  | cons y r ih =>
    rw [txtN_cons]
    rcases List.mem_cons.1 h with rfl | h
    · omega
    · have := ih h; omega
end Go.Proofs.YteefodibpjgicaaGreat

namespace Go.Proofs.YteefodibpjgicaaGreat
open Go.RowKit
abbrev Few6 (l : List Nd) : Prop := M3.weight l ≤ 1000000
theorem set5 (done Z : List Value) (i : Nat) (c0 c1 c2 c3 c4 z0 z1 z2 z3 z4 : Value) (hd : done.length = i * 5) :
    (((((done ++ z0 :: z1 :: z2 :: z3 :: z4 :: Z).set (i * 5) c0).set (i * 5 + 1) c1).set (i * 5 + 2) c2).set (i * 5 + 3) c3).set (i * 5 + 4) c4 = done ++ [c0, c1, c2, c3, c4] ++ Z := by
  rw [← hd]
  simp
theorem own_cell {w : World} {B : Nat} {e : TypeId} {k n g cap : Nat} {xs : List Value} (h : w.ownsRow B e k (.slice (some ⟨g, 0, none⟩) n cap) n xs) (j : Nat) (u : Value) (hu : xs[j]? = some u) : w.cell? ⟨g, j, none⟩ = some u ∧ w.frozen? ⟨g, j, none⟩ = false := by
  refine ⟨by have := h.cells (g := g) rfl j u hu; rwa [add_plain', Nat.zero_add] at this, ?_⟩
  rcases h.2 with ⟨h', _⟩ | ⟨g', cap', cur, h', _, hg, _⟩
  · cases h'
  · cases h'
    simp [World.frozen?, hg]
def put5 (w : World) (g i : Nat) (c0 c1 c2 c3 c4 : Value) : World := ((((w.setCell ⟨g, i * 5, none⟩ c0).setCell ⟨g, i * 5 + 1, none⟩ c1).setCell ⟨g, i * 5 + 2, none⟩ c2).setCell ⟨g, i * 5 + 3, none⟩ c3).setCell ⟨g, i * 5 + 4, none⟩ c4
theorem put5_own {w : World} {B : Nat} {e : TypeId} {n g cap i : Nat} {done Z : List Value} {z0 z1 z2 z3 z4 : Value} (h : w.ownsRow B e 5 (.slice (some ⟨g, 0, none⟩) n cap) n (done ++ z0 :: z1 :: z2 :: z3 :: z4 :: Z)) (hd : done.length = i * 5) (c0 c1 c2 c3 c4 : Value) :
    (put5 w g i c0 c1 c2 c3 c4).ownsRow B e 5 (.slice (some ⟨g, 0, none⟩) n cap) n (done ++ [c0, c1, c2, c3, c4] ++ Z) := by
  have := ((((h.stored (i * 5) c0).1.stored (i * 5 + 1) c1).1.stored (i * 5 + 2) c2).1.stored (i * 5 + 3) c3).1.stored (i * 5 + 4) c4
  rw [set5 _ _ _ _ _ _ _ _ _ _ _ _ _ hd] at this
  exact this.1
theorem put5_far (w : World) (g i : Nat) (c0 c1 c2 c3 c4 : Value) (b : Nat) (h : b ≠ g) : (put5 w g i c0 c1 c2 c3 c4).heap[b]? = w.heap[b]? := by
  unfold put5
  rw [Below.heap_setCell _ _ _ _ (by simpa using h), Below.heap_setCell _ _ _ _ (by simpa using h), Below.heap_setCell _ _ _ _ (by simpa using h), Below.heap_setCell _ _ _ _ (by simpa using h), Below.heap_setCell _ _ _ _ (by simpa using h)]
theorem put5_size (w : World) (g i : Nat) (c0 c1 c2 c3 c4 : Value) : (put5 w g i c0 c1 c2 c3 c4).heap.size = w.heap.size := by simp [put5, World.setCell]
theorem put5_below {B : Nat} {a w : World} (h : Below B a w) (g i : Nat) (c0 c1 c2 c3 c4 : Value) (hg : B ≤ g) : Below B a (put5 w g i c0 c1 c2 c3 c4) :=
  ((((h.setCell (p := ⟨g, i * 5, none⟩) hg c0).setCell (p := ⟨g, i * 5 + 1, none⟩) hg c1).setCell (p := ⟨g, i * 5 + 2, none⟩) hg c2).setCell (p := ⟨g, i * 5 + 3, none⟩) hg c3).setCell (p := ⟨g, i * 5 + 4, none⟩) hg c4
theorem weight_le {x : Nd} {l : List Nd} (h : x ∈ l) : 1 + x.attrs.length + M3.weight x.kids ≤ M3.weight l := by
  induction l with
  | nil => cases h
  | cons y r ih =>
    rw [M3.weight_cons]
    rcases List.mem_cons.1 h with rfl | h
    · omega
    · have := ih h; omega
set_option maxHeartbeats 4000000 in
set_option maxRecDepth 100000 in
theorem domClone (wt : Nat) : ∀ (S : Nat → Prop) (v : Value) (l : List Nd) (w : World), M3.weight l < wt → Few6 l → (∀ b, S b → b < w.heap.size) → RepN S w v l →
    Calls Tryz.prog 211 #[v] w (FreshPost l w) := by
  induction wt with
  | zero => intro S v l w h; omega
  | succ wt ih =>
    intro S v l w hwt hf hS hr
    have hll := M3.length_le_weight l
    obtain ⟨a, cap, rfl⟩ := hr.slice
    obtain ⟨_, hlc, hcm⟩ := hr.len
    by_cases h0 : l.length = 0
    · obtain rfl : l = [] := List.eq_nil_of_length_eq_zero h0
      go_enter Tryz.func211, Tryz.ntmps211
      go_wp2
      go_ret
      exact ⟨_, rfl, ⟨[], [], World.ownsRow_nil _ _ _ _, OwnC.nil _, Span.nil _ _⟩, Below.refl _ _⟩
    have hzb : ((l.length : Int) == 0) = false := by simpa using h0
    obtain ⟨i0, hi0, hz0, hz1, hz2⟩ := info_parts infoN
    obtain ⟨W0, hmk, hownz, hg0⟩ := run_make_full (P := Tryz.prog) (w := w) w.heap.size 25 41 i0 _ 5 Tryz.underlying25 hi0 hz0 hz1 .i64 .i64 l.length (by rw [hz2]; omega) (by unfold maxLen; omega) (Nat.le_refl _)
    have hB0 : Below w.heap.size w W0 := ⟨hg0.os, hg0.tape, hg0.output, hg0.size, fun k hk => hg0.block k hk (by simp)⟩
    have hlz : (madeCells (Value.agg #[.int .i64 0, .string ⟨#[]⟩, .slice none 0 0, .string ⟨#[]⟩, .slice none 0 0]).cells (l.length * 5)).toList.length = l.length * 5 := hownz.1
    generalize (madeCells (Value.agg #[.int .i64 0, .string ⟨#[]⟩, .slice none 0 0, .string ⟨#[]⟩, .slice none 0 0]).cells (l.length * 5)).toList = Z0 at *
    clear hg0 h0
    replace hlz := Lib.hid hlz
    go_enter Tryz.func211, Tryz.ntmps211
    go_wp2
    go_loopw [14] (fun u14 wr => ∃ (i : Nat) (done Z : List Value) (F : List Nat), i ≤ l.length ∧ u14 = .int .i64 (i : Int) ∧ done.length = i * 5 ∧ Z.length = (l.length - i) * 5 ∧ wr.ownsRow w.heap.size 41 5 (.slice (some ⟨w.heap.size, 0, none⟩) l.length l.length) l.length (done ++ Z) ∧ OwnC wr done (l.take i) F ∧ Span (w.heap.size + 1) wr.heap.size F ∧ Below w.heap.size w wr) (fun u14 _ => l.length - (intOf u14).toNat)
    case atStart => exact ⟨0, [], Z0, [], by omega, rfl, rfl, hlz.out, hownz, by simpa using OwnC.nil _, Span.nil _ _, hB0⟩
    case round =>
      obtain ⟨i, done, Z, F, hi, rfl, hd, hZ, hown, hoc, hsp, hb⟩ := hrel
      have hz := hb.size
      have hgl := (hown.lt w.heap.size rfl).2
      by_cases hlt : i < l.length
      · obtain ⟨b, off, va, vk, rfl, hSb, c0, c1, c2, c3, c4, hrv⟩ := (hr.below hS hb).at_ i hlt
        have hbl := hS b hSb
        have htk : l.take (i + 1) = l.take i ++ [l[i]] := List.take_succ_eq_append_getElem hlt
        have hwx := weight_le (List.getElem_mem hlt)
        generalize l[i] = x at *
        obtain ⟨hat, hkd⟩ := hrv
        obtain ⟨a1, cap1, rfl⟩ := hat.slice
        obtain ⟨a2, cap2, rfl⟩ := hkd.slice
        obtain ⟨z0, z1, z2, z3, z4, Z', rfl⟩ : ∃ z0 z1 z2 z3 z4 Z', Z = z0 :: z1 :: z2 :: z3 :: z4 :: Z' := by
          match Z, hZ with
          | z0 :: z1 :: z2 :: z3 :: z4 :: Z', _ => exact ⟨_, _, _, _, _, _, rfl⟩
          | [], h | [_], h | [_, _], h | [_, _, _], h | [_, _, _, _], h => simp at h; omega
        have hbx := (Below.refl wr.heap.size wr).alloc (Nat.le_refl _) (.cells (x.cells (.slice a1 x.attrs.length cap1) (.slice a2 x.kids.length cap2)).toArray 41)
        have hcl := fun W (hbb : Below w.heap.size w W) => domClone1 S x (.slice a1 x.attrs.length cap1) (.slice a2 x.kids.length cap2) W (fun b h => by have := hS b h; have := hbb.size; omega)
        have hrx : ∀ W, Below wr.heap.size wr W → RepV S W x (.slice a1 x.attrs.length cap1) (.slice a2 x.kids.length cap2) := fun W hW => RepV.below (w := wr) (B := wr.heap.size) ⟨hat, hkd⟩ (fun b h => by have := hS b h; omega) hW
        have hihx := fun W h1 h2 => ih S (.slice a2 x.kids.length cap2) x.kids W (by omega) (by show M3.weight x.kids ≤ 1000000; unfold Few6 at hf; omega) h1 h2
        have hcl2 := hcl (wr.alloc (.cells (x.cells (.slice a1 x.attrs.length cap1) (.slice a2 x.kids.length cap2)).toArray 41)) (hb.alloc hz _) (hrx _ hbx) (by unfold Few6 at hf; omega) hihx
        have hkd0 : Hid True := trivial
        clear hcl hrx hihx
        replace hcl2 := Lib.hid hcl2
        replace htk := Lib.hid htk
        replace hd := Lib.hid hd
        replace hZ := Lib.hid hZ
        replace hoc := Lib.hid hoc
        replace hown := Lib.hid hown
        go_wp2_with (fail)
        refine hcl2.out.mono ?_
        rintro e w2 ⟨va2, vk2, zs2, F2, rfl, oa, ok, hoc2, hsp2, hb2⟩
        obtain ⟨a3, cap3, rfl⟩ := own_slice oa
        obtain ⟨a4, cap4, rfl⟩ := own_slice ok
        have hbw2 : Below wr.heap.size wr w2 := hbx.trans (hb2.mono (by simp))
        have own2 := own_keep hown.out (w' := w2) (fun g hg => by
          have h1 : w.heap.size = g := by simpa [Value.ownBlock] using hg
          rw [← h1]; exact hbw2.block _ hgl)
        have hzz : ∀ j u, ([z0, z1, z2, z3, z4] : List Value)[j]? = some u → (done ++ z0 :: z1 :: z2 :: z3 :: z4 :: Z')[i * 5 + j]? = some u := by
          intro j u hu
          rw [List.getElem?_append_right (by have := hd.out; omega), show i * 5 + j - done.length = j by have := hd.out; omega]
          have := (List.getElem?_eq_some_iff.1 hu).1
          simp at this
          match j, this with
          | 0, _ | 1, _ | 2, _ | 3, _ | 4, _ => exact hu
        obtain ⟨y0, g0⟩ := own_cell own2 _ _ (hzz 0 _ rfl)
        obtain ⟨y1, g1⟩ := own_cell own2 _ _ (hzz 1 _ rfl)
        obtain ⟨y2, g2⟩ := own_cell own2 _ _ (hzz 2 _ rfl)
        obtain ⟨y3, g3⟩ := own_cell own2 _ _ (hzz 3 _ rfl)
        obtain ⟨y4, g4⟩ := own_cell own2 _ _ (hzz 4 _ rfl)
        simp only [Nat.add_zero] at y0 g0
        have hbw : Below w.heap.size w w2 := hb.trans (hbw2.mono hz)
        have hzw := hbw2.size
        replace hzz := Lib.hid hzz
        replace own2 := Lib.hid own2
        replace oa := Lib.hid oa
        replace ok := Lib.hid ok
        replace hoc2 := Lib.hid hoc2
        clear hcl2 c0 c1 c2 c3 c4
        go_wp2_with (fail)
        go_roundw
        case rel =>
          have hp := put5_own own2.out hd.out (.int .i64 x.kind) (.string x.name) (.slice a3 x.attrs.length cap3) (.string x.text) (.slice a4 x.kids.length cap4)
          have hfar := put5_far w2 w.heap.size i (.int .i64 x.kind) (.string x.name) (.slice a3 x.attrs.length cap3) (.string x.text) (.slice a4 x.kids.length cap4)
          have hsz5 := put5_size w2 w.heap.size i (.int .i64 x.kind) (.string x.name) (.slice a3 x.attrs.length cap3) (.string x.text) (.slice a4 x.kids.length cap4)
          have hbl5 := put5_below hbw w.heap.size i (.int .i64 x.kind) (.string x.name) (.slice a3 x.attrs.length cap3) (.string x.text) (.slice a4 x.kids.length cap4) (Nat.le_refl _)
          have hsW : wr.heap.size + 1 = (wr.alloc (.cells (x.cells (.slice a1 x.attrs.length cap1) (.slice a2 x.kids.length cap2)).toArray 41)).heap.size := by simp
          rw [← hsW] at hsp2
          refine ⟨i + 1, done ++ [.int .i64 x.kind, .string x.name, .slice a3 x.attrs.length cap3, .string x.text, .slice a4 x.kids.length cap4], Z', F ++ ((Value.slice a3 x.attrs.length cap3).ownBlock.toList ++ ((Value.slice a4 x.kids.length cap4).ownBlock.toList ++ F2)), by omega, by go_num, by simp; have := hd.out; omega, by have := hZ.out; simp at this; omega, ?_, ?_, ?_, hbl5⟩
          · exact hp
          · rw [htk.out]
            have k1 : OwnC (put5 w2 w.heap.size i (.int .i64 x.kind) (.string x.name) (.slice a3 x.attrs.length cap3) (.string x.text) (.slice a4 x.kids.length cap4)) done (l.take i) F :=
              OwnC.keep _ _ _ (fun b hb' => (hfar b (by have := hsp.2 b hb'; omega)).trans (hbw2.block b (hsp.2 b hb').2)) hoc.out
            refine OwnC.append ?_ _ _ _ k1
            have k2 := own_keep oa.out (w' := put5 w2 w.heap.size i (.int .i64 x.kind) (.string x.name) (.slice a3 x.attrs.length cap3) (.string x.text) (.slice a4 x.kids.length cap4)) (fun g hg => hfar g (by have := (oa.out.lt g hg).1; omega))
            have k3 := own_keep ok.out (w' := put5 w2 w.heap.size i (.int .i64 x.kind) (.string x.name) (.slice a3 x.attrs.length cap3) (.string x.text) (.slice a4 x.kids.length cap4)) (fun g hg => hfar g (by have := (ok.out.lt g hg).1; omega))
            have k4 : OwnC (put5 w2 w.heap.size i (.int .i64 x.kind) (.string x.name) (.slice a3 x.attrs.length cap3) (.string x.text) (.slice a4 x.kids.length cap4)) zs2 x.kids F2 := OwnC.keep _ _ _ (fun b hb' => hfar b (by have := hsp2.2 b (by simp [hb']); omega)) hoc2.out
            exact OwnC.cons_iff.2 ⟨_, _, zs2, [], F2, [], rfl, own_base k2 (fun g _ => Nat.zero_le _), own_base k3 (fun g _ => Nat.zero_le _), by simp, k4, OwnC.nil _⟩
          · show Span _ (put5 w2 w.heap.size i (.int .i64 x.kind) (.string x.name) (.slice a3 x.attrs.length cap3) (.string x.text) (.slice a4 x.kids.length cap4)).heap.size _
            rw [hsz5]
            exact Span.append (mid := wr.heap.size) hsp (hsp2.mono (by omega) (Nat.le_refl _)) (by omega) (by omega)
        case measure => simp [intOf]; omega
      · obtain rfl : i = l.length := by omega
        have hZ0 : Z = [] := List.eq_nil_of_length_eq_zero (by rw [hZ]; simp)
        subst hZ0
        rw [List.append_nil] at hown
        rw [List.take_length] at hoc
        replace hown := Lib.hid hown
        replace hoc := Lib.hid hoc
        clear hd hZ
        go_wp2
        go_ret
        refine ⟨_, rfl, ⟨done, F, hown.out, hoc.out, ?_⟩, hb⟩
        exact Span.append (mid := w.heap.size + 1) ⟨by simp [Value.ownBlock], fun b hb' => by simp [Value.ownBlock] at hb'; omega⟩ hsp (by omega) (by omega)
end Go.Proofs.YteefodibpjgicaaGreat

namespace Go.Proofs.YteefodibpjgicaaGreat
open Go.RowKit
theorem Fresh.nil (w : World) (B : Nat) : Fresh w B (.slice none 0 0) [] := ⟨[], [], World.ownsRow_nil _ _ _ _, OwnC.nil _, Span.nil _ _⟩
theorem Fresh.base {w : World} {B B' : Nat} {v : Value} {l : List Nd} (h : Fresh w B v l) (hb : B' ≤ B) : Fresh w B' v l := by
  obtain ⟨zs, F, h1, h2, h3⟩ := h
  exact ⟨zs, F, own_base h1 (fun g hg => by have := (h1.lt g hg).1; omega), h2, h3.mono hb (Nat.le_refl _)⟩
theorem Fresh.keep {w w' : World} {B : Nat} {v : Value} {l : List Nd} (h : Fresh w B v l) (hk : ∀ b, B ≤ b → b < w.heap.size → w'.heap[b]? = w.heap[b]?) (hz : w.heap.size ≤ w'.heap.size) : Fresh w' B v l := by
  obtain ⟨zs, F, h1, h2, h3⟩ := h
  exact ⟨zs, F, own_keep h1 (fun g hg => hk g (h1.lt g hg).1 (h1.lt g hg).2), OwnC.keep _ _ _ (fun b hb => hk b (h3.2 b (by simp [hb])).1 (h3.2 b (by simp [hb])).2) h2, h3.mono (Nat.le_refl _) hz⟩
end Go.Proofs.YteefodibpjgicaaGreat

namespace Go.Proofs.YteefodibpjgicaaGreat
open Go.RowKit
def oneSame (x y : Nd) : Bool := x.kind == y.kind && M3.eqB x.name y.name && M3.eqB x.text y.text && M3.sameA x.attrs y.attrs && M3.sameN x.kids y.kids
theorem sameA_drop (a b : List Att) (i : Nat) (h : i < a.length) (h2 : i < b.length) : M3.sameA (a.drop i) (b.drop i) = (M3.eqB a[i].name b[i].name && M3.eqB a[i].value b[i].value && M3.sameA (a.drop (i + 1)) (b.drop (i + 1))) := by
  rw [List.drop_eq_getElem_cons h, List.drop_eq_getElem_cons h2, M3.sameA]
theorem sameN_drop (a b : List Nd) (i : Nat) (h : i < a.length) (h2 : i < b.length) : M3.sameN (a.drop i) (b.drop i) = (oneSame a[i] b[i] && M3.sameN (a.drop (i + 1)) (b.drop (i + 1))) := by
  rw [List.drop_eq_getElem_cons h, List.drop_eq_getElem_cons h2, M3.sameN_cons]; rfl
set_option maxHeartbeats 2000000 in
set_option maxRecDepth 100000 in
theorem slEqual (S : Nat → Prop) (a b : List Att) (va vb : Value) (w : World) (hS : ∀ b, S b → b < w.heap.size) (ha : Row S w 2 va a.length (cellsA a)) (hb : Row S w 2 vb b.length (cellsA b)) :
    Calls Tryz.prog 79 #[va, vb] w fun e w' => e = .returned (.bool (M3.sameA a b)) ∧ Below w.heap.size w w' := by
  obtain ⟨a1, cap1, rfl⟩ := ha.slice
  obtain ⟨a2, cap2, rfl⟩ := hb.slice
  obtain ⟨_, hl1, hm1⟩ := ha.len
  obtain ⟨_, hl2, hm2⟩ := hb.len
  by_cases hne : a.length = b.length
  · have hz : ((a.length : Int) == (b.length : Int)) = true := by simp [hne]
    have h0 : Hid (M3.sameA a b = M3.sameA (a.drop 0) (b.drop 0)) := rfl
    replace hne := Lib.hid hne
    go_enter Tryz.func79, Tryz.ntmps79
    go_wp2
    go_loopw [5, 13] (fun _ u13 wr => ∃ i : Nat, i ≤ a.length ∧ u13 = .int .i64 (i : Int) ∧ Hid (M3.sameA a b = M3.sameA (a.drop i) (b.drop i)) ∧ Below w.heap.size w wr) (fun _ u13 _ => a.length - (intOf u13).toNat)
    case atStart => exact ⟨0, by omega, rfl, h0, Below.refl _ _⟩
    case round =>
      obtain ⟨i, hi, rfl, hv, hbw⟩ := hrel
      clear h0
      by_cases hlt : i < a.length
      · have hlt2 : i < b.length := by have := hne.out; omega
        have hI0 : (0 : Int) ≤ (i : Int) := by omega
        have hI1 : (i : Int) < (a.length : Int) := by omega
        have hI2 : (i : Int) < (b.length : Int) := by omega
        obtain ⟨b1, off1, rfl, hS1, c0, c1⟩ := (ha.below hS hbw).atA i hlt
        obtain ⟨b2, off2, rfl, hS2, d0, d1⟩ := (hb.below hS hbw).atA i hlt2
        have hsd := sameA_drop a b i hlt hlt2
        generalize a[i].name = n1 at *
        generalize a[i].value = x1 at *
        generalize b[i].name = n2 at *
        generalize b[i].value = x2 at *
        replace hsd := Lib.hid hsd
        have q1 : M3.eqB n1 n2 = (n1.toList == n2.toList) := rfl
        have q2 : M3.eqB x1 x2 = (x1.toList == x2.toList) := rfl
        replace hsd := hsd.out
        cases he1 : (n1.toList == n2.toList)
        · have hsd : M3.sameA (a.drop i) (b.drop i) = false := by rw [hsd, q1, he1]; rfl
          clear q1 q2
          replace hsd := Lib.hid (hv.out.trans hsd)
          clear hv
          go_wp2_with (fail)
          go_region_held3 (fun w' => w'.cell? ⟨b1, off1 + i * 2, none⟩ = some (.string n1) ∧ w'.cell? ⟨b1, off1 + i * 2 + 1, none⟩ = some (.string x1) ∧ w'.cell? ⟨b2, off2 + i * 2, none⟩ = some (.string n2) ∧ w'.cell? ⟨b2, off2 + i * 2 + 1, none⟩ = some (.string x2))
            (first
              | go_keep
              | assumption)
            (first
              | fail)
          go_wp2_with (fail)
          go_ret
          exact ⟨by rw [hsd.out]; rfl, hbw.trans ((Below.refl _ wr).drew.mono (by have := hbw.size; omega))⟩
        · cases he2 : (x1.toList == x2.toList)
          · have hsd : M3.sameA (a.drop i) (b.drop i) = false := by rw [hsd, q1, q2, he1, he2]; rfl
            clear q1 q2
            replace hsd := Lib.hid (hv.out.trans hsd)
            clear hv
            go_wp2_with (fail)
            go_region_held3 (fun w' => w'.cell? ⟨b1, off1 + i * 2, none⟩ = some (.string n1) ∧ w'.cell? ⟨b1, off1 + i * 2 + 1, none⟩ = some (.string x1) ∧ w'.cell? ⟨b2, off2 + i * 2, none⟩ = some (.string n2) ∧ w'.cell? ⟨b2, off2 + i * 2 + 1, none⟩ = some (.string x2))
              (first
                | go_keep
                | assumption)
              (first
                | fail)
            go_wp2_with (fail)
            go_ret
            exact ⟨by rw [hsd.out]; rfl, hbw.trans ((Below.refl _ wr).drew.mono (by have := hbw.size; omega))⟩
          · have hsd : M3.sameA (a.drop i) (b.drop i) = M3.sameA (a.drop (i + 1)) (b.drop (i + 1)) := by rw [hsd, q1, q2, he1, he2]; rfl
            clear q1 q2
            replace hsd := Lib.hid (hv.out.trans hsd)
            clear hv
            go_wp2_with (fail)
            go_region_held3 (fun w' => w'.cell? ⟨b1, off1 + i * 2, none⟩ = some (.string n1) ∧ w'.cell? ⟨b1, off1 + i * 2 + 1, none⟩ = some (.string x1) ∧ w'.cell? ⟨b2, off2 + i * 2, none⟩ = some (.string n2) ∧ w'.cell? ⟨b2, off2 + i * 2 + 1, none⟩ = some (.string x2))
              (first
                | go_keep
                | assumption)
              (first
                | fail)
            go_wp2_with (fail)
            go_roundw
            case rel => exact ⟨i + 1, by omega, by go_num, hsd.out, hbw.trans ((Below.refl _ wr).drew.mono (by have := hbw.size; omega))⟩
            case measure => simp [intOf]; omega
      · obtain rfl : i = a.length := by omega
        have hs : Hid (M3.sameA a b = true) := by
          show _ = _
          rw [hv.out, List.drop_length, hne.out, List.drop_length]; rfl
        clear hv
        go_wp2
        go_ret
        exact ⟨by rw [hs.out]; rfl, hbw⟩
  · have hs : Hid (M3.sameA a b = false) := M3.sameA_len a b hne
    have hz : ((a.length : Int) == (b.length : Int)) = false := by simpa using fun h => hne (by omega)
    go_enter Tryz.func79, Tryz.ntmps79
    go_wp2
    go_ret
    exact ⟨by rw [hs.out]; rfl, Below.refl _ _⟩
end Go.Proofs.YteefodibpjgicaaGreat

namespace Go.Proofs.YteefodibpjgicaaGreat
open Go.RowKit
def SamePost (r : Bool) (w : World) (e : Ending) (w' : World) : Prop := e = .returned (.bool r) ∧ Below w.heap.size w w'
set_option maxHeartbeats 4000000 in
set_option maxRecDepth 100000 in
theorem domAlike (S : Nat → Prop) (x y : Nd) (va vk vb vl : Value) (w : World) (hS : ∀ b, S b → b < w.heap.size) (hx : RepV S w x va vk) (hy : RepV S w y vb vl)
    (ih : ∀ W, Below w.heap.size w W → Calls Tryz.prog 38 #[vk, vl] W (SamePost (M3.sameN x.kids y.kids) W)) :
    Calls Tryz.prog 57 #[x.val va vk, y.val vb vl] w (SamePost (oneSame x y) w) := by
  obtain ⟨a1, c1, rfl⟩ := hx.at_.slice
  obtain ⟨a2, c2, rfl⟩ := hx.kids.slice
  obtain ⟨a3, c3, rfl⟩ := hy.at_.slice
  obtain ⟨a4, c4, rfl⟩ := hy.kids.slice
  have hsame : oneSame x y = (x.kind == y.kind && (x.name.toList == y.name.toList) && (x.text.toList == y.text.toList) && M3.sameA x.attrs y.attrs && M3.sameN x.kids y.kids) := rfl
  have hB : Below w.heap.size w ((w.alloc (.cells (x.cells (.slice a1 x.attrs.length c1) (.slice a2 x.kids.length c2)).toArray 41)).alloc (.cells (y.cells (.slice a3 y.attrs.length c3) (.slice a4 y.kids.length c4)).toArray 41)) := ((Below.refl _ w).alloc (Nat.le_refl _) _).alloc (by simp) _
  have hq := Lib.hid (fun W (hW : Below w.heap.size w W) => slEqual S x.attrs y.attrs _ _ W (fun b h => by have := hS b h; have := hW.size; omega) (hx.at_.below hS hW) (hy.at_.below hS hW))
  have b0 := (Box.new w 41 (x.cells (.slice a1 x.attrs.length c1) (.slice a2 x.kids.length c2))).alloc (.cells (y.cells (.slice a3 y.attrs.length c3) (.slice a4 y.kids.length c4)).toArray 41)
  have b1 := Box.new (w.alloc (.cells (x.cells (.slice a1 x.attrs.length c1) (.slice a2 x.kids.length c2)).toArray 41)) 41 (y.cells (.slice a3 y.attrs.length c3) (.slice a4 y.kids.length c4))
  simp only [World.size_alloc] at b1
  replace ih := Lib.hid ih
  obtain ⟨r1, hr1⟩ : ∃ r1, M3.sameA x.attrs y.attrs = r1 := ⟨_, rfl⟩
  obtain ⟨r2, hr2⟩ : ∃ r2, M3.sameN x.kids y.kids = r2 := ⟨_, rfl⟩
  rw [hr1] at hsame hq
  rw [hr2] at hsame ih
  clear hr1 hr2
  clear hx hy hS
  cases x with | mk k1 n1 ats1 t1 ks1 =>
  cases y with | mk k2 n2 ats2 t2 ks2 =>
  simp only [Nd.kind, Nd.name, Nd.text, Nd.attrs, Nd.kids, Nd.cells, Nd.val] at *
  cases he1 : (k1 == k2)
  · have hs : Hid (oneSame (.mk k1 n1 ats1 t1 ks1) (.mk k2 n2 ats2 t2 ks2) = false) := by show _ = _; rw [hsame, he1]; rfl
    have he : decide (k1 = k2) = false := by simpa using he1
    clear hsame
    go_enter Tryz.func57, Tryz.ntmps57
    go_wp2_with (fail)
    go_ret
    exact ⟨by rw [hs.out]; rfl, hB⟩
  · have he : k1 = k2 := by simpa using he1
    subst he
    cases he2 : (n1.toList == n2.toList)
    · have hs : Hid (oneSame (.mk k1 n1 ats1 t1 ks1) (.mk k1 n2 ats2 t2 ks2) = false) := by show _ = _; rw [hsame, he1, he2]; rfl
      clear hsame
      go_enter Tryz.func57, Tryz.ntmps57
      go_wp2_with (fail)
      go_ret
      exact ⟨by rw [hs.out]; rfl, hB⟩
    · cases he3 : (t1.toList == t2.toList)
      · have hs : Hid (oneSame (.mk k1 n1 ats1 t1 ks1) (.mk k1 n2 ats2 t2 ks2) = false) := by show _ = _; rw [hsame, he1, he2, he3]; rfl
        clear hsame
        go_enter Tryz.func57, Tryz.ntmps57
        go_wp2_with (fail)
        go_ret
        exact ⟨by rw [hs.out]; rfl, hB⟩
      · rw [he1, he2, he3] at hsame
        replace hsame := Lib.hid hsame
        go_enter Tryz.func57, Tryz.ntmps57
        go_wp2_with (fail)
        refine (hq.out _ hB).mono ?_
        rintro e w1 ⟨rfl, hb1⟩
        have e0 := b0.below hb1 b0.lt
        have e1 := b1.below hb1 b1.lt
        have d0 := e0.cell (i := 4) rfl
        have d1 := e1.cell (i := 4) rfl
        have hB1 := hB.trans (hb1.mono (by simp; omega))
        clear b0 b1 e0 e1 hq
        cases r1
        · go_wp2_with (fail)
          go_ret
          exact ⟨by rw [hsame.out]; rfl, hB1⟩
        · go_wp2_with (fail)
          refine (ih.out _ hB1).mono ?_
          rintro e w2 ⟨rfl, hb2⟩
          have hz1 := hB1.size
          go_wp2_with (fail)
          go_ret
          exact ⟨by rw [hsame.out]; cases r2 <;> rfl, hB1.trans (hb2.mono hz1)⟩
end Go.Proofs.YteefodibpjgicaaGreat

namespace Go.Proofs.YteefodibpjgicaaGreat
open Go.RowKit
def Alikes (S : Nat → Prop) (a : List Nd) : Prop := ∀ x ∈ a, ∀ (y : Nd) (va vk vb vl : Value) (W : World), (∀ b, S b → b < W.heap.size) → RepV S W x va vk → RepV S W y vb vl → Calls Tryz.prog 57 #[x.val va vk, y.val vb vl] W (SamePost (oneSame x y) W)
set_option maxHeartbeats 4000000 in
set_option maxRecDepth 100000 in
theorem slEqualFunc (S : Nat → Prop) (a b : List Nd) (va vb : Value) (w : World) (hS : ∀ b, S b → b < w.heap.size) (ha : RepN S w va a) (hb : RepN S w vb b) (hal : Alikes S a) :
    Calls Tryz.prog 56 #[va, vb, .func (.func 57) #[] #[]] w (SamePost (M3.sameN a b) w) := by
  obtain ⟨a1, cap1, rfl⟩ := ha.slice
  obtain ⟨a2, cap2, rfl⟩ := hb.slice
  obtain ⟨_, hl1, hm1⟩ := ha.len
  obtain ⟨_, hl2, hm2⟩ := hb.len
  replace hal := Lib.hid hal
  by_cases hne : a.length = b.length
  · have hz : ((a.length : Int) == (b.length : Int)) = true := by simp [hne]
    have h0 : Hid (M3.sameN a b = M3.sameN (a.drop 0) (b.drop 0)) := rfl
    replace hne := Lib.hid hne
    go_enter Tryz.func56, Tryz.ntmps56
    go_wp2
    go_loopw [17] (fun u17 wr => ∃ i : Nat, i ≤ a.length ∧ u17 = .int .i64 (i : Int) ∧ Hid (M3.sameN a b = M3.sameN (a.drop i) (b.drop i)) ∧ Below w.heap.size w wr) (fun u17 _ => a.length - (intOf u17).toNat)
    case atStart => exact ⟨0, by omega, rfl, h0, Below.refl _ _⟩
    case round =>
      obtain ⟨i, hi, rfl, hv, hbw⟩ := hrel
      clear h0
      have hzw := hbw.size
      by_cases hlt : i < a.length
      · have hlt2 : i < b.length := by have := hne.out; omega
        have hI0 : (0 : Int) ≤ (i : Int) := by omega
        have hI1 : (i : Int) < (a.length : Int) := by omega
        have hI2 : (i : Int) < (b.length : Int) := by omega
        obtain ⟨b1, off1, va, vk, rfl, hS1, c0, c1, c2, c3, c4, hrx⟩ := (ha.below hS hbw).at_ i hlt
        obtain ⟨b2, off2, vb, vl, rfl, hS2, d0, d1, d2, d3, d4, hry⟩ := (hb.below hS hbw).at_ i hlt2
        have hsd := sameN_drop a b i hlt hlt2
        have hax := hal.out a[i] (List.getElem_mem hlt)
        generalize a[i] = x at *
        generalize b[i] = y at *
        obtain ⟨a5, c5, rfl⟩ := hrx.at_.slice
        obtain ⟨a6, c6, rfl⟩ := hrx.kids.slice
        obtain ⟨a7, c7, rfl⟩ := hry.at_.slice
        obtain ⟨a8, c8, rfl⟩ := hry.kids.slice
        have hx1 := (Below.refl wr.heap.size wr).alloc (Nat.le_refl _) (.cells (x.cells (.slice a5 x.attrs.length c5) (.slice a6 x.kids.length c6)).toArray 41)
        have hl2 : b2 < wr.heap.size := by have := hS b2 hS2; omega
        have d0' := (hx1.cell (p := ⟨b2, off2 + i * 5, none⟩) hl2).trans d0
        have d1' := (hx1.cell (p := ⟨b2, off2 + i * 5 + 1, none⟩) hl2).trans d1
        have d2' := (hx1.cell (p := ⟨b2, off2 + i * 5 + 2, none⟩) hl2).trans d2
        have d3' := (hx1.cell (p := ⟨b2, off2 + i * 5 + 3, none⟩) hl2).trans d3
        have d4' := (hx1.cell (p := ⟨b2, off2 + i * 5 + 4, none⟩) hl2).trans d4
        have hB2 := hx1.alloc (by simp) (.cells (y.cells (.slice a7 y.attrs.length c7) (.slice a8 y.kids.length c8)).toArray 41)
        have hcall := Lib.hid (hax y _ _ _ _ ((wr.alloc (.cells (x.cells (.slice a5 x.attrs.length c5) (.slice a6 x.kids.length c6)).toArray 41)).alloc (.cells (y.cells (.slice a7 y.attrs.length c7) (.slice a8 y.kids.length c8)).toArray 41)) (fun b h => by have := hS b h; have := hB2.size; omega) (RepV.below (w := wr) (B := wr.heap.size) hrx (fun b h => by have := hS b h; omega) hB2) (RepV.below (w := wr) (B := wr.heap.size) hry (fun b h => by have := hS b h; omega) hB2))
        replace hsd := Lib.hid (hv.out.trans hsd)
        generalize oneSame x y = r at *
        clear hax hv hrx hry
        go_wp2_with (fail)
        refine hcall.out.mono ?_
        rintro e w2 ⟨rfl, hb2⟩
        have hbr : Below wr.heap.size wr w2 := hB2.trans (hb2.mono (by simp; omega))
        clear c0 c1 c2 c3 c4 d0 d1 d2 d3 d4 d0' d1' d2' d3' d4' hcall
        cases r
        · go_wp2_with (fail)
          go_ret
          exact ⟨by rw [hsd.out]; rfl, hbw.trans (hbr.mono hzw)⟩
        · go_wp2_with (fail)
          go_roundw
          case rel => exact ⟨i + 1, by omega, by go_num, by rw [hsd.out]; rfl, hbw.trans (hbr.mono hzw)⟩
          case measure => simp [intOf]; omega
      · obtain rfl : i = a.length := by omega
        have hs : Hid (M3.sameN a b = true) := by
          show _ = _
          rw [hv.out, List.drop_length, hne.out, List.drop_length]; exact M3.sameN_nil
        clear hv
        go_wp2
        go_ret
        exact ⟨by rw [hs.out]; rfl, hbw⟩
  · have hs : Hid (M3.sameN a b = false) := M3.sameN_len a b hne
    have hz : ((a.length : Int) == (b.length : Int)) = false := by simpa using fun h => hne (by omega)
    go_enter Tryz.func56, Tryz.ntmps56
    go_wp2
    go_ret
    exact ⟨by rw [hs.out]; rfl, Below.refl _ _⟩
set_option maxHeartbeats 1000000 in
theorem domSame (wt : Nat) : ∀ (S : Nat → Prop) (a b : List Nd) (va vb : Value) (w : World), M3.weight a < wt → (∀ b, S b → b < w.heap.size) → RepN S w va a → RepN S w vb b → Calls Tryz.prog 38 #[va, vb] w (SamePost (M3.sameN a b) w) := by
  induction wt with
  | zero => intro S a b va vb w h; omega
  | succ wt ih =>
    intro S a b va vb w hwt hS ha hb
    have hE := Lib.hid (slEqualFunc S a b va vb w hS ha hb (fun x hx y va vk vb vl W hSW hrx hry => domAlike S x y va vk vb vl W hSW hrx hry (fun W2 hW2 => ih S x.kids y.kids vk vl W2 (by have := weight_mem hx; omega) (fun b h => by have := hSW b h; have := hW2.size; omega) (hrx.kids.below hSW hW2) (hry.kids.below hSW hW2))))
    obtain ⟨a1, cap1, rfl⟩ := ha.slice
    obtain ⟨a2, cap2, rfl⟩ := hb.slice
    clear ih
    go_enter Tryz.func38, Tryz.ntmps38
    go_wp2_with (fail)
    refine hE.out.mono ?_
    rintro e w1 ⟨rfl, hb1⟩
    go_wp2
    go_ret
    exact ⟨rfl, hb1⟩
end Go.Proofs.YteefodibpjgicaaGreat

namespace Go.Proofs.YteefodibpjgicaaGreat
open Go.RowKit
end Go.Proofs.YteefodibpjgicaaGreat

namespace Go.Proofs.YteefodibpjgicaaGreat
open Go.RowKit
theorem weight_push (out : List Nd) (x : Nd) : M3.weight (M3.push out x) ≤ M3.weight out + M3.weight [x] := by
  cases h : M3.bareB x
  · rcases List.eq_nil_or_concat out with rfl | ⟨o, y, rfl⟩
    · rw [M3.push_none h]; omega
    · rw [List.concat_eq_append, M3.push_snoc h]
      split
      · rw [M3.weight_append, M3.weight_append]
        have : M3.weight [M3.withText y (M3.cat y.text x.text)] = M3.weight [y] := by
          rw [M3.weight_cons, M3.weight_cons, M3.withText_attrs, M3.withText_kids]
        omega
      · rw [M3.weight_append]; omega
  · rw [M3.push_bare h]; omega
end Go.Proofs.YteefodibpjgicaaGreat

namespace Go.Proofs.YteefodibpjgicaaGreat
open Go.RowKit
def IntPost (n : Int) (w : World) (e : Ending) (w' : World) : Prop := e = .returned (.int .i64 n) ∧ Below w.heap.size w w'
end Go.Proofs.YteefodibpjgicaaGreat

namespace Go.Proofs.YteefodibpjgicaaGreat
open Go.RowKit Go.ChangeShapes Go.WideShapes
section
variable {H : Type} {enc : TypeId × Value → H} {w : World} {base : Nat} {spare : Nat → Bool} {held : Bool}
end
theorem Row.atS {S : Nat → Prop} {w : World} {a : Option Addr} {n cap : Nat} {l : List ByteArray} (h : Row S w 1 (.slice a n cap) l.length (l.flatMap fun s => [.string s])) (i : Nat) (hi : i < l.length) :
    ∃ b off, a = some ⟨b, off, none⟩ ∧ S b ∧ w.cell? ⟨b, off + i, none⟩ = some (.string l[i]) := by
  obtain ⟨h0, a', cap', h1, h2, h3, h4, h5⟩ := h
  cases h1
  obtain ⟨b, off, rfl, h7, h8⟩ := h5 (by omega)
  refine ⟨b, off, rfl, h7, h8 i _ ?_⟩
  have : l.flatMap (fun s => [Value.string s]) = l.map Value.string := (List.map_eq_flatMap).symm
  rw [this, List.getElem?_map, List.getElem?_eq_getElem hi]; rfl
end Go.Proofs.YteefodibpjgicaaGreat

namespace Go.Proofs.YteefodibpjgicaaGreat
open Go.RowKit
def behind (l : List Nd) : Nat → Bool
  | 0 => false
  | i + 1 => match l[i]? with | some x => x.kind == 2 | none => false
end Go.Proofs.YteefodibpjgicaaGreat

namespace Go.Proofs.YteefodibpjgicaaGreat
namespace M3
theorem nilB_empty : nilB ⟨#[]⟩ = true := nilB_iff.2 rfl
end M3
end Go.Proofs.YteefodibpjgicaaGreat
