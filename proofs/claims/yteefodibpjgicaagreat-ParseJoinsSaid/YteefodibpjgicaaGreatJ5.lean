/- Texts joined: Ref03f, Same, Same2, Same3, Ref03s, Small3, Law03m, Law03g, Ref03x, Math3g, Ref03g, Law03v, AnyInv, Region, Ref03h, Good, Math6b, Math7. -/
import Derived.Test.YteefodibpjgicaaGreatRows
import Derived.StillTailTactics
import Derived.OrdersIn
import Derived.StillTail
import Derived.RegionTactic
import Derived.Outline
import Derived.Deep.CutRange
import Derived.Test.YteefodibpjgicaaGreatJ1
import Derived.Test.YteefodibpjgicaaGreatJ2
import Derived.Test.YteefodibpjgicaaGreatJ3
import Derived.Test.YteefodibpjgicaaGreatJ4
namespace Go.Proofs.YteefodibpjgicaaGreat
open Go.RowKit
theorem OwnC.nv {w : World} (l : List Nd) : ∀ (xs : List Value) (F : List Nat), OwnC w xs l F → ∃ L : List NV, L.map NV.x = l ∧ xs = cellsV L ∧ ∀ b ∈ L, b.ok := by
  induction l using Nd.ind with
  | h0 => intro xs F h; rw [OwnC] at h; exact ⟨[], rfl, h.1, fun b hb => by cases hb⟩
  | h1 k n ats t ks r _ ih2 =>
    intro xs F h
    obtain ⟨va, vk, zs, ys, F1, F2, rfl, h2, h3, rfl, h5, h6⟩ := OwnC.cons_iff.1 h
    obtain ⟨L, rfl, rfl, hL⟩ := ih2 _ _ h6
    refine ⟨⟨.mk k n ats t ks, va, vk⟩ :: L, rfl, rfl, fun b hb => ?_⟩
    rcases List.mem_cons.1 hb with rfl | hb
    · exact ⟨own_slice h2, own_slice h3⟩
    · exact hL b hb
theorem OwnC.one {w : World} {b : NV} {F : List Nat} (h : OwnC w b.cells [b.x] F) : ∃ zs F1, w.ownsRow 0 43 2 b.va b.x.attrs.length (cellsA b.x.attrs) ∧ w.ownsRow 0 41 5 b.vk b.x.kids.length zs ∧ F = b.va.ownBlock.toList ++ (b.vk.ownBlock.toList ++ F1) ∧ OwnC w zs b.x.kids F1 := by
  obtain ⟨va, vk, zs, ys, F1, F2, h1, h2, h3, rfl, h5, h6⟩ := OwnC.cons_iff.1 h
  rw [OwnC] at h6
  obtain ⟨rfl, rfl⟩ := h6
  obtain ⟨x, va', vk'⟩ := b
  cases h1
  exact ⟨zs, F1, h2, h3, by simp, h5⟩
theorem OwnC.mk_one {w : World} {b : NV} {zs : List Value} {F1 : List Nat} (h2 : w.ownsRow 0 43 2 b.va b.x.attrs.length (cellsA b.x.attrs)) (h3 : w.ownsRow 0 41 5 b.vk b.x.kids.length zs) (h5 : OwnC w zs b.x.kids F1) :
    OwnC w b.cells [b.x] (b.va.ownBlock.toList ++ (b.vk.ownBlock.toList ++ F1)) :=
  OwnC.cons_iff.2 ⟨b.va, b.vk, zs, [], F1, [], by simp, h2, h3, by simp, h5, OwnC.nil _⟩
theorem OwnC.split {w : World} {m : List Nd} {ys : List Value} (l : List Nd) : ∀ (xs : List Value) (F : List Nat), xs.length = l.length * 5 → OwnC w (xs ++ ys) (l ++ m) F → ∃ F1 F2, F = F1 ++ F2 ∧ OwnC w xs l F1 ∧ OwnC w ys m F2 := by
  induction l using Nd.ind with
  | h0 =>
    intro xs F hl h
    obtain rfl : xs = [] := List.eq_nil_of_length_eq_zero (by simpa using hl)
    exact ⟨[], F, rfl, OwnC.nil _, h⟩
  | h1 k n ats t ks r _ ih2 =>
    intro xs F hl h
    obtain ⟨va, vk, zs, ys', F1, F2, h1, h2, h3, rfl, h5, h6⟩ := OwnC.cons_iff.1 h
    obtain ⟨xs', rfl⟩ : ∃ xs', xs = (Nd.mk k n ats t ks).cells va vk ++ xs' := by
      match xs, hl, h1 with
      | c0 :: c1 :: c2 :: c3 :: c4 :: xs', _, h1 =>
        simp only [List.cons_append, List.cons.injEq, List.nil_append] at h1
        obtain ⟨rfl, rfl, rfl, rfl, rfl, _⟩ := h1
        exact ⟨xs', rfl⟩
      | [], hl, _ | [_], hl, _ | [_, _], hl, _ | [_, _, _], hl, _ | [_, _, _, _], hl, _ => exact absurd hl (by simp <;> omega)
    rw [List.append_assoc] at h1
    have h1' : xs' ++ ys = ys' := List.append_cancel_left h1
    subst h1'
    obtain ⟨G1, G2, rfl, g1, g2⟩ := ih2 xs' F2 (by simp at hl; omega) h6
    exact ⟨_, G2, (by rw [← List.append_assoc]), OwnC.cons_iff.2 ⟨va, vk, zs, xs', F1, G1, rfl, h2, h3, rfl, h5, g1⟩, g2⟩
theorem OwnC.text {w : World} {b : NV} {F : List Nat} (t : ByteArray) (h : OwnC w b.cells [b.x] F) : OwnC w (b.withText t).cells [(b.withText t).x] F := by
  obtain ⟨zs, F1, h1, h2, rfl, h4⟩ := h.one
  obtain ⟨⟨k, n, ats, t0, ks⟩, va, vk⟩ := b
  exact OwnC.mk_one (b := ⟨.mk k n ats t ks, va, vk⟩) h1 h2 h4
theorem ownC_merge {w : World} : ∀ (L out : List NV) (F Fo : List Nat), OwnC w (cellsV L) (L.map NV.x) F → OwnC w (cellsV out) (out.map NV.x) Fo → ∃ F', OwnC w (cellsV (L.foldl pushV out)) ((L.foldl pushV out).map NV.x) F' ∧ F'.Sublist (Fo ++ F) := by
  intro L
  induction L with
  | nil => intro out F Fo h ho; rw [OwnC.eq_def] at h; exact ⟨Fo, ho, by simp⟩
  | cons b r ih =>
    intro out F Fo h ho
    rw [cellsV_cons, ← List.singleton_append, List.map_append] at h
    obtain ⟨Fb, Fr, rfl, hb, hr⟩ := OwnC.split [b.x] b.cells F rfl h
    rw [List.foldl_cons]
    have key : ∃ Fp, OwnC w (cellsV (pushV out b)) ((pushV out b).map NV.x) Fp ∧ Fp.Sublist (Fo ++ Fb) := by
      cases hbr : bareV b
      · rcases List.eq_nil_or_concat out with rfl | ⟨o, y, rfl⟩
        · rw [pushV_nil hbr, cellsV_one]
          exact ⟨Fb, hb, List.sublist_append_right _ _⟩
        · rw [List.concat_eq_append] at ho ⊢
          rw [pushV_snoc hbr]
          split
          · rw [cellsV_snoc, List.map_append] at ho
            obtain ⟨G1, G2, rfl, g1, g2⟩ := OwnC.split (o.map NV.x) (cellsV o) Fo (by rw [cellsV_len, List.length_map]) ho
            refine ⟨G1 ++ G2, ?_, List.sublist_append_left _ _⟩
            rw [cellsV_snoc, List.map_append]
            exact OwnC.append (OwnC.text _ g2) _ _ _ g1
          · refine ⟨Fo ++ Fb, ?_, List.Sublist.refl _⟩
            rw [cellsV_snoc, List.map_append]
            exact OwnC.append hb _ _ _ ho
      · rw [pushV_bare hbr]
        exact ⟨Fo, ho, List.sublist_append_left _ _⟩
    obtain ⟨Fp, hp, hs⟩ := key
    obtain ⟨F', h1, h2⟩ := ih (pushV out b) Fr Fp hr hp
    refine ⟨F', h1, h2.trans ?_⟩
    rw [← List.append_assoc]
    exact List.Sublist.append hs (List.Sublist.refl _)
def FreshB (B : Nat) (l : List Nd) (w : World) (e : Ending) (w' : World) : Prop := ∃ v', e = .returned v' ∧ Fresh w' B v' l ∧ Below w.heap.size w w'
theorem ref03MergeF (B : Nat) (v : Value) (l : List Nd) (w : World) (hB : B ≤ w.heap.size) (hf : Fresh w B v l) (hl : l.length ≤ 1000000) (ht : txtN l ≤ 1073741824) :
    Calls Tryz.prog 50 #[v] w (FreshB B (M3.merge l) w) := by
  obtain ⟨zs, F, hown, hoc, hsp⟩ := hf
  obtain ⟨L, rfl, rfl, hL⟩ := OwnC.nv _ _ _ hoc
  rw [List.length_map] at hown hl
  refine (ref03MergeV (fun b => b < w.heap.size) v L w (fun _ h => h) (Row.own hown (fun g hg => (hown.lt g hg).2)) hL hl (by rw [← txtV_map] at ht; exact ht)).mono ?_
  rintro e w1 ⟨v1, rfl, hown1, hb⟩
  obtain ⟨F', h1, h2⟩ := ownC_merge L [] F [] hoc (OwnC.nil _)
  rw [List.nil_append] at h2
  refine ⟨v1, rfl, ⟨cellsV (mergeV L), F', ?_, ?_, ?_⟩, hb⟩
  · rw [← mergeV_map, List.length_map]; exact own_base hown1 (fun g hg => by have := (hown1.lt g hg).1; omega)
  · rw [← mergeV_map]
    exact OwnC.keep _ _ _ (fun b hb' => hb.block b (hsp.2 b (List.mem_append_right _ (h2.subset hb'))).2) h1
  · have hz := hb.size
    have s1 := Span.own hown1
    refine ⟨List.nodup_append.2 ⟨s1.1, h2.nodup (List.nodup_append.1 hsp.1).2.1, fun a ha b hb' e => ?_⟩, fun b hb' => ?_⟩
    · have h3 := (s1.2 a ha).1
      have h4 := (hsp.2 b (List.mem_append_right _ (h2.subset hb'))).2
      omega
    · rcases List.mem_append.1 hb' with h | h
      · have := s1.2 b h; omega
      · have := hsp.2 b (List.mem_append_right _ (h2.subset h)); omega
end Go.Proofs.YteefodibpjgicaaGreat

namespace Go.Proofs.YteefodibpjgicaaGreat
open Go.RowKit
def oneSame (x y : Nd) : Bool := x.kind == y.kind && M3.eqB x.name y.name && M3.eqB x.text y.text && M3.sameA x.attrs y.attrs && M3.sameN x.kids y.kids
theorem sameA_drop (a b : List Att) (i : Nat) (h : i < a.length) (h2 : i < b.length) : M3.sameA (a.drop i) (b.drop i) = (M3.eqB a[i].name b[i].name && M3.eqB a[i].value b[i].value && M3.sameA (a.drop (i + 1)) (b.drop (i + 1))) := by
  rw [List.drop_eq_getElem_cons h, List.drop_eq_getElem_cons h2, M3.sameA]
theorem sameN_drop (a b : List Nd) (i : Nat) (h : i < a.length) (h2 : i < b.length) : M3.sameN (a.drop i) (b.drop i) = (oneSame a[i] b[i] && M3.sameN (a.drop (i + 1)) (b.drop (i + 1))) := by
  rw [List.drop_eq_getElem_cons h, List.drop_eq_getElem_cons h2, M3.sameN_cons]; rfl
set_option maxHeartbeats 2000000 in
set_option maxRecDepth 100000 in
theorem slEqual (S : Nat → Prop) (a b : List Att) (va vb : Value) (w : World) (hS : ∀ b, S b → b < w.heap.size) (ha : Row S w 2 va a.length (cellsA a)) (hb : Row S w 2 vb b.length (cellsA b)) :
    Calls Tryz.prog 79 #[va, vb] w fun e w' => e = .returned (.bool (M3.sameA a b)) ∧ Below w.heap.size w w' := by
  obtain ⟨a1, cap1, rfl⟩ := ha.slice
  obtain ⟨a2, cap2, rfl⟩ := hb.slice
  obtain ⟨_, hl1, hm1⟩ := ha.len
  obtain ⟨_, hl2, hm2⟩ := hb.len
  by_cases hne : a.length = b.length
  · have hz : ((a.length : Int) == (b.length : Int)) = true := by simp [hne]
    have h0 : Hid (M3.sameA a b = M3.sameA (a.drop 0) (b.drop 0)) := rfl
    replace hne := Lib.hid hne
    go_enter Tryz.func79, Tryz.ntmps79
    go_wp2
    go_loopw [5, 13] (fun _ u13 wr => ∃ i : Nat, i ≤ a.length ∧ u13 = .int .i64 (i : Int) ∧ Hid (M3.sameA a b = M3.sameA (a.drop i) (b.drop i)) ∧ Below w.heap.size w wr) (fun _ u13 _ => a.length - (intOf u13).toNat)
    case atStart => exact ⟨0, by omega, rfl, h0, Below.refl _ _⟩
    case round =>
      obtain ⟨i, hi, rfl, hv, hbw⟩ := hrel
      clear h0
      by_cases hlt : i < a.length
      · have hlt2 : i < b.length := by have := hne.out; omega
        have hI0 : (0 : Int) ≤ (i : Int) := by omega
        have hI1 : (i : Int) < (a.length : Int) := by omega
        have hI2 : (i : Int) < (b.length : Int) := by omega
        obtain ⟨b1, off1, rfl, hS1, c0, c1⟩ := (ha.below hS hbw).atA i hlt
        obtain ⟨b2, off2, rfl, hS2, d0, d1⟩ := (hb.below hS hbw).atA i hlt2
        have hsd := sameA_drop a b i hlt hlt2
        generalize a[i].name = n1 at *
        generalize a[i].value = x1 at *
        generalize b[i].name = n2 at *
        generalize b[i].value = x2 at *
        replace hsd := Lib.hid hsd
        have q1 : M3.eqB n1 n2 = (n1.toList == n2.toList) := rfl
        have q2 : M3.eqB x1 x2 = (x1.toList == x2.toList) := rfl
        replace hsd := hsd.out
        cases he1 : (n1.toList == n2.toList)
        · have hsd : M3.sameA (a.drop i) (b.drop i) = false := by rw [hsd, q1, he1]; rfl
          clear q1 q2
          replace hsd := Lib.hid (hv.out.trans hsd)
          clear hv
          go_wp2_with (fail)
          go_region_held3 (fun w' => w'.cell? ⟨b1, off1 + i * 2, none⟩ = some (.string n1) ∧ w'.cell? ⟨b1, off1 + i * 2 + 1, none⟩ = some (.string x1) ∧ w'.cell? ⟨b2, off2 + i * 2, none⟩ = some (.string n2) ∧ w'.cell? ⟨b2, off2 + i * 2 + 1, none⟩ = some (.string x2))
            (first
              | go_keep
              | assumption)
            (first
              | fail)
          go_wp2_with (fail)
          go_ret
          exact ⟨by rw [hsd.out]; rfl, hbw.trans ((Below.refl _ wr).drew.mono (by have := hbw.size; omega))⟩
        · cases he2 : (x1.toList == x2.toList)
          · have hsd : M3.sameA (a.drop i) (b.drop i) = false := by rw [hsd, q1, q2, he1, he2]; rfl
            clear q1 q2
            replace hsd := Lib.hid (hv.out.trans hsd)
            clear hv
            go_wp2_with (fail)
            go_region_held3 (fun w' => w'.cell? ⟨b1, off1 + i * 2, none⟩ = some (.string n1) ∧ w'.cell? ⟨b1, off1 + i * 2 + 1, none⟩ = some (.string x1) ∧ w'.cell? ⟨b2, off2 + i * 2, none⟩ = some (.string n2) ∧ w'.cell? ⟨b2, off2 + i * 2 + 1, none⟩ = some (.string x2))
              (first
                | go_keep
                | assumption)
              (first
                | fail)
            go_wp2_with (fail)
            go_ret
            exact ⟨by rw [hsd.out]; rfl, hbw.trans ((Below.refl _ wr).drew.mono (by have := hbw.size; omega))⟩
          · have hsd : M3.sameA (a.drop i) (b.drop i) = M3.sameA (a.drop (i + 1)) (b.drop (i + 1)) := by rw [hsd, q1, q2, he1, he2]; rfl
            clear q1 q2
            replace hsd := Lib.hid (hv.out.trans hsd)
            clear hv
            go_wp2_with (fail)
            go_region_held3 (fun w' => w'.cell? ⟨b1, off1 + i * 2, none⟩ = some (.string n1) ∧ w'.cell? ⟨b1, off1 + i * 2 + 1, none⟩ = some (.string x1) ∧ w'.cell? ⟨b2, off2 + i * 2, none⟩ = some (.string n2) ∧ w'.cell? ⟨b2, off2 + i * 2 + 1, none⟩ = some (.string x2))
              (first
                | go_keep
                | assumption)
              (first
                | fail)
            go_wp2_with (fail)
            go_roundw
            case rel => exact ⟨i + 1, by omega, by go_num, hsd.out, hbw.trans ((Below.refl _ wr).drew.mono (by have := hbw.size; omega))⟩
            case measure => simp [intOf]; omega
      · obtain rfl : i = a.length := by omega
        have hs : Hid (M3.sameA a b = true) := by
          show _ = _
          rw [hv.out, List.drop_length, hne.out, List.drop_length]; rfl
        clear hv
        go_wp2
        go_ret
        exact ⟨by rw [hs.out]; rfl, hbw⟩
  · have hs : Hid (M3.sameA a b = false) := M3.sameA_len a b hne
    have hz : ((a.length : Int) == (b.length : Int)) = false := by simpa using fun h => hne (by omega)
    go_enter Tryz.func79, Tryz.ntmps79
    go_wp2
    go_ret
    exact ⟨by rw [hs.out]; rfl, Below.refl _ _⟩
end Go.Proofs.YteefodibpjgicaaGreat

namespace Go.Proofs.YteefodibpjgicaaGreat
open Go.RowKit
def SamePost (r : Bool) (w : World) (e : Ending) (w' : World) : Prop := e = .returned (.bool r) ∧ Below w.heap.size w w'
set_option maxHeartbeats 4000000 in
set_option maxRecDepth 100000 in
theorem domAlike (S : Nat → Prop) (x y : Nd) (va vk vb vl : Value) (w : World) (hS : ∀ b, S b → b < w.heap.size) (hx : RepV S w x va vk) (hy : RepV S w y vb vl)
    (ih : ∀ W, Below w.heap.size w W → Calls Tryz.prog 38 #[vk, vl] W (SamePost (M3.sameN x.kids y.kids) W)) :
    Calls Tryz.prog 57 #[x.val va vk, y.val vb vl] w (SamePost (oneSame x y) w) := by
  obtain ⟨a1, c1, rfl⟩ := hx.at_.slice
  obtain ⟨a2, c2, rfl⟩ := hx.kids.slice
  obtain ⟨a3, c3, rfl⟩ := hy.at_.slice
  obtain ⟨a4, c4, rfl⟩ := hy.kids.slice
  have hsame : oneSame x y = (x.kind == y.kind && (x.name.toList == y.name.toList) && (x.text.toList == y.text.toList) && M3.sameA x.attrs y.attrs && M3.sameN x.kids y.kids) := rfl
  have hB : Below w.heap.size w ((w.alloc (.cells (x.cells (.slice a1 x.attrs.length c1) (.slice a2 x.kids.length c2)).toArray 41)).alloc (.cells (y.cells (.slice a3 y.attrs.length c3) (.slice a4 y.kids.length c4)).toArray 41)) := ((Below.refl _ w).alloc (Nat.le_refl _) _).alloc (by simp) _
  have hq := Lib.hid (fun W (hW : Below w.heap.size w W) => slEqual S x.attrs y.attrs _ _ W (fun b h => by have := hS b h; have := hW.size; omega) (hx.at_.below hS hW) (hy.at_.below hS hW))
  have b0 := (Box.new w 41 (x.cells (.slice a1 x.attrs.length c1) (.slice a2 x.kids.length c2))).alloc (.cells (y.cells (.slice a3 y.attrs.length c3) (.slice a4 y.kids.length c4)).toArray 41)
  have b1 := Box.new (w.alloc (.cells (x.cells (.slice a1 x.attrs.length c1) (.slice a2 x.kids.length c2)).toArray 41)) 41 (y.cells (.slice a3 y.attrs.length c3) (.slice a4 y.kids.length c4))
  simp only [World.size_alloc] at b1
  replace ih := Lib.hid ih
  obtain ⟨r1, hr1⟩ : ∃ r1, M3.sameA x.attrs y.attrs = r1 := ⟨_, rfl⟩
  obtain ⟨r2, hr2⟩ : ∃ r2, M3.sameN x.kids y.kids = r2 := ⟨_, rfl⟩
  rw [hr1] at hsame hq
  rw [hr2] at hsame ih
  clear hr1 hr2
  clear hx hy hS
  cases x with | mk k1 n1 ats1 t1 ks1 =>
  cases y with | mk k2 n2 ats2 t2 ks2 =>
  simp only [Nd.kind, Nd.name, Nd.text, Nd.attrs, Nd.kids, Nd.cells, Nd.val] at *
  cases he1 : (k1 == k2)
  · have hs : Hid (oneSame (.mk k1 n1 ats1 t1 ks1) (.mk k2 n2 ats2 t2 ks2) = false) := by show _ = _; rw [hsame, he1]; rfl
    have he : decide (k1 = k2) = false := by simpa using he1
    clear hsame
    go_enter Tryz.func57, Tryz.ntmps57
    go_wp2_with (fail)
    go_ret
    exact ⟨by rw [hs.out]; rfl, hB⟩
  · have he : k1 = k2 := by simpa using he1
    subst he
    cases he2 : (n1.toList == n2.toList)
    · have hs : Hid (oneSame (.mk k1 n1 ats1 t1 ks1) (.mk k1 n2 ats2 t2 ks2) = false) := by show _ = _; rw [hsame, he1, he2]; rfl
      clear hsame
      go_enter Tryz.func57, Tryz.ntmps57
      go_wp2_with (fail)
      go_ret
      exact ⟨by rw [hs.out]; rfl, hB⟩
    · cases he3 : (t1.toList == t2.toList)
      · have hs : Hid (oneSame (.mk k1 n1 ats1 t1 ks1) (.mk k1 n2 ats2 t2 ks2) = false) := by show _ = _; rw [hsame, he1, he2, he3]; rfl
        clear hsame
        go_enter Tryz.func57, Tryz.ntmps57
        go_wp2_with (fail)
        go_ret
        exact ⟨by rw [hs.out]; rfl, hB⟩
      · rw [he1, he2, he3] at hsame
        replace hsame := Lib.hid hsame
        go_enter Tryz.func57, Tryz.ntmps57
        go_wp2_with (fail)
        refine (hq.out _ hB).mono ?_
        rintro e w1 ⟨rfl, hb1⟩
        have e0 := b0.below hb1 b0.lt
        have e1 := b1.below hb1 b1.lt
        have d0 := e0.cell (i := 4) rfl
        have d1 := e1.cell (i := 4) rfl
        have hB1 := hB.trans (hb1.mono (by simp; omega))
        clear b0 b1 e0 e1 hq
        cases r1
        · go_wp2_with (fail)
          go_ret
          exact ⟨by rw [hsame.out]; rfl, hB1⟩
        · go_wp2_with (fail)
          refine (ih.out _ hB1).mono ?_
          rintro e w2 ⟨rfl, hb2⟩
          have hz1 := hB1.size
          go_wp2_with (fail)
          go_ret
          exact ⟨by rw [hsame.out]; cases r2 <;> rfl, hB1.trans (hb2.mono hz1)⟩
end Go.Proofs.YteefodibpjgicaaGreat

namespace Go.Proofs.YteefodibpjgicaaGreat
open Go.RowKit
def Alikes (S : Nat → Prop) (a : List Nd) : Prop := ∀ x ∈ a, ∀ (y : Nd) (va vk vb vl : Value) (W : World), (∀ b, S b → b < W.heap.size) → RepV S W x va vk → RepV S W y vb vl → Calls Tryz.prog 57 #[x.val va vk, y.val vb vl] W (SamePost (oneSame x y) W)
set_option maxHeartbeats 4000000 in
set_option maxRecDepth 100000 in
theorem slEqualFunc (S : Nat → Prop) (a b : List Nd) (va vb : Value) (w : World) (hS : ∀ b, S b → b < w.heap.size) (ha : RepN S w va a) (hb : RepN S w vb b) (hal : Alikes S a) :
    Calls Tryz.prog 56 #[va, vb, .func (.func 57) #[] #[]] w (SamePost (M3.sameN a b) w) := by
  obtain ⟨a1, cap1, rfl⟩ := ha.slice
  obtain ⟨a2, cap2, rfl⟩ := hb.slice
  obtain ⟨_, hl1, hm1⟩ := ha.len
  obtain ⟨_, hl2, hm2⟩ := hb.len
  replace hal := Lib.hid hal
  by_cases hne : a.length = b.length
  · have hz : ((a.length : Int) == (b.length : Int)) = true := by simp [hne]
    have h0 : Hid (M3.sameN a b = M3.sameN (a.drop 0) (b.drop 0)) := rfl
    replace hne := Lib.hid hne
    go_enter Tryz.func56, Tryz.ntmps56
    go_wp2
    go_loopw [17] (fun u17 wr => ∃ i : Nat, i ≤ a.length ∧ u17 = .int .i64 (i : Int) ∧ Hid (M3.sameN a b = M3.sameN (a.drop i) (b.drop i)) ∧ Below w.heap.size w wr) (fun u17 _ => a.length - (intOf u17).toNat)
    case atStart => exact ⟨0, by omega, rfl, h0, Below.refl _ _⟩
    case round =>
      obtain ⟨i, hi, rfl, hv, hbw⟩ := hrel
      clear h0
      have hzw := hbw.size
      by_cases hlt : i < a.length
      · have hlt2 : i < b.length := by have := hne.out; omega
        have hI0 : (0 : Int) ≤ (i : Int) := by omega
        have hI1 : (i : Int) < (a.length : Int) := by omega
        have hI2 : (i : Int) < (b.length : Int) := by omega
        obtain ⟨b1, off1, va, vk, rfl, hS1, c0, c1, c2, c3, c4, hrx⟩ := (ha.below hS hbw).at_ i hlt
        obtain ⟨b2, off2, vb, vl, rfl, hS2, d0, d1, d2, d3, d4, hry⟩ := (hb.below hS hbw).at_ i hlt2
        have hsd := sameN_drop a b i hlt hlt2
        have hax := hal.out a[i] (List.getElem_mem hlt)
        generalize a[i] = x at *
        generalize b[i] = y at *
        obtain ⟨a5, c5, rfl⟩ := hrx.at_.slice
        obtain ⟨a6, c6, rfl⟩ := hrx.kids.slice
        obtain ⟨a7, c7, rfl⟩ := hry.at_.slice
        obtain ⟨a8, c8, rfl⟩ := hry.kids.slice
        have hx1 := (Below.refl wr.heap.size wr).alloc (Nat.le_refl _) (.cells (x.cells (.slice a5 x.attrs.length c5) (.slice a6 x.kids.length c6)).toArray 41)
        have hl2 : b2 < wr.heap.size := by have := hS b2 hS2; omega
        have d0' := (hx1.cell (p := ⟨b2, off2 + i * 5, none⟩) hl2).trans d0
        have d1' := (hx1.cell (p := ⟨b2, off2 + i * 5 + 1, none⟩) hl2).trans d1
        have d2' := (hx1.cell (p := ⟨b2, off2 + i * 5 + 2, none⟩) hl2).trans d2
        have d3' := (hx1.cell (p := ⟨b2, off2 + i * 5 + 3, none⟩) hl2).trans d3
        have d4' := (hx1.cell (p := ⟨b2, off2 + i * 5 + 4, none⟩) hl2).trans d4
        have hB2 := hx1.alloc (by simp) (.cells (y.cells (.slice a7 y.attrs.length c7) (.slice a8 y.kids.length c8)).toArray 41)
        have hcall := Lib.hid (hax y _ _ _ _ ((wr.alloc (.cells (x.cells (.slice a5 x.attrs.length c5) (.slice a6 x.kids.length c6)).toArray 41)).alloc (.cells (y.cells (.slice a7 y.attrs.length c7) (.slice a8 y.kids.length c8)).toArray 41)) (fun b h => by have := hS b h; have := hB2.size; omega) (RepV.below (w := wr) (B := wr.heap.size) hrx (fun b h => by have := hS b h; omega) hB2) (RepV.below (w := wr) (B := wr.heap.size) hry (fun b h => by have := hS b h; omega) hB2))
        replace hsd := Lib.hid (hv.out.trans hsd)
        generalize oneSame x y = r at *
        clear hax hv hrx hry
        go_wp2_with (fail)
        refine hcall.out.mono ?_
        rintro e w2 ⟨rfl, hb2⟩
        have hbr : Below wr.heap.size wr w2 := hB2.trans (hb2.mono (by simp; omega))
        clear c0 c1 c2 c3 c4 d0 d1 d2 d3 d4 d0' d1' d2' d3' d4' hcall
        cases r
        · go_wp2_with (fail)
          go_ret
          exact ⟨by rw [hsd.out]; rfl, hbw.trans (hbr.mono hzw)⟩
        · go_wp2_with (fail)
          go_roundw
          case rel => exact ⟨i + 1, by omega, by go_num, by rw [hsd.out]; rfl, hbw.trans (hbr.mono hzw)⟩
          case measure => simp [intOf]; omega
      · obtain rfl : i = a.length := by omega
        have hs : Hid (M3.sameN a b = true) := by
          show _ = _
          rw [hv.out, List.drop_length, hne.out, List.drop_length]; exact M3.sameN_nil
        clear hv
        go_wp2
        go_ret
        exact ⟨by rw [hs.out]; rfl, hbw⟩
  · have hs : Hid (M3.sameN a b = false) := M3.sameN_len a b hne
    have hz : ((a.length : Int) == (b.length : Int)) = false := by simpa using fun h => hne (by omega)
    go_enter Tryz.func56, Tryz.ntmps56
    go_wp2
    go_ret
    exact ⟨by rw [hs.out]; rfl, Below.refl _ _⟩
set_option maxHeartbeats 1000000 in
theorem domSame (wt : Nat) : ∀ (S : Nat → Prop) (a b : List Nd) (va vb : Value) (w : World), M3.weight a < wt → (∀ b, S b → b < w.heap.size) → RepN S w va a → RepN S w vb b → Calls Tryz.prog 38 #[va, vb] w (SamePost (M3.sameN a b) w) := by
  induction wt with
  | zero => intro S a b va vb w h; omega
  | succ wt ih =>
    intro S a b va vb w hwt hS ha hb
    have hE := Lib.hid (slEqualFunc S a b va vb w hS ha hb (fun x hx y va vk vb vl W hSW hrx hry => domAlike S x y va vk vb vl W hSW hrx hry (fun W2 hW2 => ih S x.kids y.kids vk vl W2 (by have := weight_mem hx; omega) (fun b h => by have := hSW b h; have := hW2.size; omega) (hrx.kids.below hSW hW2) (hry.kids.below hSW hW2))))
    obtain ⟨a1, cap1, rfl⟩ := ha.slice
    obtain ⟨a2, cap2, rfl⟩ := hb.slice
    clear ih
    go_enter Tryz.func38, Tryz.ntmps38
    go_wp2_with (fail)
    refine hE.out.mono ?_
    rintro e w1 ⟨rfl, hb1⟩
    go_wp2
    go_ret
    exact ⟨rfl, hb1⟩
end Go.Proofs.YteefodibpjgicaaGreat

namespace Go.Proofs.YteefodibpjgicaaGreat
open Go.RowKit
set_option maxHeartbeats 8000000 in
set_option maxRecDepth 100000 in
theorem ref03Same (wt : Nat) : ∀ (S : Nat → Prop) (a b : List Nd) (va vb : Value) (w : World), M3.weight a < wt → (∀ b, S b → b < w.heap.size) → RepN S w va a → RepN S w vb b → Calls Tryz.prog 10 #[va, vb] w (SamePost (M3.sameN a b) w) := by
  induction wt with
  | zero => intro S a b va vb w h; omega
  | succ wt ih =>
  intro S a b va vb w hwt hS ha hb
  obtain ⟨a1, cap1, rfl⟩ := ha.slice
  obtain ⟨a2, cap2, rfl⟩ := hb.slice
  obtain ⟨_, hl1, hm1⟩ := ha.len
  obtain ⟨_, hl2, hm2⟩ := hb.len
  replace ih := Lib.hid ih
  by_cases hne : a.length = b.length
  · have hz : ((a.length : Int) == (b.length : Int)) = true := by simp [hne]
    have h0 : Hid (M3.sameN a b = M3.sameN (a.drop 0) (b.drop 0)) := rfl
    replace hne := Lib.hid hne
    go_enter Tryz.func10, Tryz.ntmps10
    go_wp2
    go_loopw [5] (fun u5 wr => ∃ i : Nat, i ≤ a.length ∧ u5 = .int .i64 (i : Int) ∧ Hid (M3.sameN a b = M3.sameN (a.drop i) (b.drop i)) ∧ Below w.heap.size w wr) (fun u5 _ => a.length - (intOf u5).toNat)
    case atStart => exact ⟨0, by omega, rfl, h0, Below.refl _ _⟩
    case round =>
      obtain ⟨i, hi, rfl, hv, hbw⟩ := hrel
      clear h0
      have hzw := hbw.size
      by_cases hlt : i < a.length
      · have hlt2 : i < b.length := by have := hne.out; omega
        have hI0 : (0 : Int) ≤ (i : Int) := by omega
        have hI1 : (i : Int) < (a.length : Int) := by omega
        have hI2 : (i : Int) < (b.length : Int) := by omega
        obtain ⟨b1, off1, va, vk, rfl, hS1, c0, c1, c2, c3, c4, hrx⟩ := (ha.below hS hbw).at_ i hlt
        obtain ⟨b2, off2, vb, vl, rfl, hS2, d0, d1, d2, d3, d4, hry⟩ := (hb.below hS hbw).at_ i hlt2
        have hsd := sameN_drop a b i hlt hlt2
        have hwx := weight_mem (List.getElem_mem hlt)
        generalize a[i] = x at *
        generalize b[i] = y at *
        obtain ⟨a5, c5, rfl⟩ := hrx.at_.slice
        obtain ⟨a6, c6, rfl⟩ := hrx.kids.slice
        obtain ⟨a7, c7, rfl⟩ := hry.at_.slice
        obtain ⟨a8, c8, rfl⟩ := hry.kids.slice
        have hx1 := (Below.refl wr.heap.size wr).alloc (Nat.le_refl _) (.cells (x.cells (.slice a5 x.attrs.length c5) (.slice a6 x.kids.length c6)).toArray 41)
        have hl2 : b2 < wr.heap.size := by have := hS b2 hS2; omega
        have d0' := (hx1.cell (p := ⟨b2, off2 + i * 5, none⟩) hl2).trans d0
        have d1' := (hx1.cell (p := ⟨b2, off2 + i * 5 + 1, none⟩) hl2).trans d1
        have d2' := (hx1.cell (p := ⟨b2, off2 + i * 5 + 2, none⟩) hl2).trans d2
        have d3' := (hx1.cell (p := ⟨b2, off2 + i * 5 + 3, none⟩) hl2).trans d3
        have d4' := (hx1.cell (p := ⟨b2, off2 + i * 5 + 4, none⟩) hl2).trans d4
        have hB2 := hx1.alloc (by simp) (.cells (y.cells (.slice a7 y.attrs.length c7) (.slice a8 y.kids.length c8)).toArray 41)
        have b0 := (Box.new wr 41 (x.cells (.slice a5 x.attrs.length c5) (.slice a6 x.kids.length c6))).alloc (.cells (y.cells (.slice a7 y.attrs.length c7) (.slice a8 y.kids.length c8)).toArray 41)
        have b1' := Box.new (wr.alloc (.cells (x.cells (.slice a5 x.attrs.length c5) (.slice a6 x.kids.length c6)).toArray 41)) 41 (y.cells (.slice a7 y.attrs.length c7) (.slice a8 y.kids.length c8))
        simp only [World.size_alloc] at b1'
        have hih := Lib.hid (fun W (hW : Below wr.heap.size wr W) => ih.out S x.kids y.kids (.slice a6 x.kids.length c6) (.slice a8 y.kids.length c8) W (by omega) (fun b h => by have := hS b h; have := hW.size; omega) (RepN.below (w := wr) (B := wr.heap.size) hrx.kids (fun b h => by have := hS b h; omega) hW) (RepN.below (w := wr) (B := wr.heap.size) hry.kids (fun b h => by have := hS b h; omega) hW))
        have hatx := fun W (hW : Below wr.heap.size wr W) => Row.below (w := wr) (B := wr.heap.size) hrx.at_ (fun b h => by have := hS b h; omega) hW
        have haty := fun W (hW : Below wr.heap.size wr W) => Row.below (w := wr) (B := wr.heap.size) hry.at_ (fun b h => by have := hS b h; omega) hW
        replace hsd := hv.out.trans hsd
        clear hv ih hrx hry ha hb
        have hsame : oneSame x y = (x.kind == y.kind && (x.name.toList == y.name.toList) && (x.text.toList == y.text.toList) && M3.sameA x.attrs y.attrs && M3.sameN x.kids y.kids) := rfl
        rw [hsame] at hsd
        clear hsame
        cases x with | mk k1 n1 ats1 t1 ks1 =>
        cases y with | mk k2 n2 ats2 t2 ks2 =>
        simp only [Nd.kind, Nd.name, Nd.text, Nd.attrs, Nd.kids, Nd.cells] at *
        replace hatx := Lib.hid hatx
        replace haty := Lib.hid haty
        cases he1 : (k1 == k2)
        · have hk : ¬ k1 = k2 := by simpa using he1
          replace hsd : Hid (M3.sameN a b = false) := by show _ = _; rw [hsd, he1]; rfl
          go_wp2_with (fail)
          go_ret
          exact ⟨by rw [hsd.out]; rfl, hbw.trans (hB2.mono hzw)⟩
        · obtain rfl : k1 = k2 := by simpa using he1
          cases he2 : (n1.toList == n2.toList)
          · replace hsd : Hid (M3.sameN a b = false) := by show _ = _; rw [hsd, he1, he2]; rfl
            go_wp2_with (fail)
            go_ret
            exact ⟨by rw [hsd.out]; rfl, hbw.trans (hB2.mono hzw)⟩
          · cases he3 : (t1.toList == t2.toList)
            · replace hsd : Hid (M3.sameN a b = false) := by show _ = _; rw [hsd, he1, he2, he3]; rfl
              go_wp2_with (fail)
              go_ret
              exact ⟨by rw [hsd.out]; rfl, hbw.trans (hB2.mono hzw)⟩
            · by_cases hla : ats1.length = ats2.length
              · have hla1 : ((ats1.length : Int) == (ats2.length : Int)) = true := by simp [hla]
                have hla2 : (ats1.length : Int) = (ats2.length : Int) := by omega
                rw [he1, he2, he3] at hsd
                replace hsd := Lib.hid hsd
                replace hla := Lib.hid hla
                clear hla2
                go_wp2_with (fail)
                rw [show ((ats1.length : Int) != (ats2.length : Int)) = false by simp [hla.out]]
                clear hla1
                obtain ⟨wo, rfl⟩ : ∃ wo : World, wo = wr := ⟨_, rfl⟩
                have h1 : Hid (M3.sameA ats1 ats2 = M3.sameA (ats1.drop 0) (ats2.drop 0)) := rfl
                go_loopw [8] (fun u8 wr => ∃ k : Nat, k ≤ ats1.length ∧ u8 = .int .i64 (k : Int) ∧ Hid (M3.sameA ats1 ats2 = M3.sameA (ats1.drop k) (ats2.drop k)) ∧ Below wo.heap.size wo wr ∧ Box wr wo.heap.size 41 [.int .i64 k1, .string n1, .slice a5 ats1.length c5, .string t1, .slice a6 ks1.length c6] ∧ Box wr (wo.heap.size + 1) 41 [.int .i64 k1, .string n2, .slice a7 ats2.length c7, .string t2, .slice a8 ks2.length c8]) (fun u8 _ => ats1.length - (intOf u8).toNat)
                case atStart => exact ⟨0, by omega, rfl, h1, hB2, b0, b1'⟩
                case round =>
                  obtain ⟨k, hk, rfl, hA, hbi, hx8, hy8⟩ := hrel
                  have g1 := hx8.cell (i := 2) rfl
                  have g2 := hy8.cell (i := 2) rfl
                  have g3 := hx8.cell (i := 4) rfl
                  have g4 := hy8.cell (i := 4) rfl
                  clear h1 hB2 b0 b1' d0' d1' d2' d3' d4' c0 c1 c2 c3 c4 d0 d1 d2 d3 d4 hx1
                  by_cases hlk : k < ats1.length
                  · have hlk2 : k < ats2.length := by have := hla.out; omega
                    have hJ0 : (0 : Int) ≤ (k : Int) := by omega
                    have hJ1 : (k : Int) < (ats1.length : Int) := by omega
                    have hJ2 : (k : Int) < (ats2.length : Int) := by omega
                    obtain ⟨_, hl5, hm5⟩ := (hatx.out wr hbi).len
                    have hb63 : Hid (ats1.length ≤ 9223372036854775807) := Nat.le_trans hl5 hm5
                    clear hl5 hm5
                    obtain ⟨b3, off3, rfl, hS3, p0, p1⟩ := (hatx.out wr hbi).atA k hlk
                    obtain ⟨b4, off4, rfl, hS4, p2, p3⟩ := (haty.out wr hbi).atA k hlk2
                    have hsa := sameA_drop ats1 ats2 k hlk hlk2
                    generalize ats1[k].name = m1 at *
                    generalize ats1[k].value = x1 at *
                    generalize ats2[k].name = m2 at *
                    generalize ats2[k].value = x2 at *
                    replace hA := hA.out.trans hsa
                    have q1 : M3.eqB m1 m2 = (m1.toList == m2.toList) := rfl
                    have q2 : M3.eqB x1 x2 = (x1.toList == x2.toList) := rfl
                    clear hsa
                    cases he4 : (m1.toList == m2.toList)
                    · clear q2
                      replace hA : Hid (M3.sameA ats1 ats2 = false) := by show _ = _; rw [hA, q1, he4]; rfl
                      go_wp2_with (fail)
                      go_region_held3 (fun w' => w'.cell? ⟨wo.heap.size, 2, none⟩ = some (.slice (some ⟨b3, off3, none⟩) ats1.length c5) ∧ w'.cell? ⟨wo.heap.size + 1, 2, none⟩ = some (.slice (some ⟨b4, off4, none⟩) ats2.length c7) ∧ w'.cell? ⟨b3, off3 + k * 2, none⟩ = some (.string m1) ∧ w'.cell? ⟨b3, off3 + k * 2 + 1, none⟩ = some (.string x1) ∧ w'.cell? ⟨b4, off4 + k * 2, none⟩ = some (.string m2) ∧ w'.cell? ⟨b4, off4 + k * 2 + 1, none⟩ = some (.string x2))
                        (first
                          | go_keep
                          | assumption)
                        (first
                          | fail)
                      go_wp2_with (fail)
                      go_ret
                      exact ⟨by rw [hsd.out, hA.out]; rfl, hbw.trans ((hbi.trans ((Below.refl _ wr).drew.mono (by have := hbi.size; omega))).mono hzw)⟩
                    · cases he5 : (x1.toList == x2.toList)
                      · replace hA : Hid (M3.sameA ats1 ats2 = false) := by show _ = _; rw [hA, q1, q2, he4, he5]; rfl
                        go_wp2_with (fail)
                        go_region_held3 (fun w' => w'.cell? ⟨wo.heap.size, 2, none⟩ = some (.slice (some ⟨b3, off3, none⟩) ats1.length c5) ∧ w'.cell? ⟨wo.heap.size + 1, 2, none⟩ = some (.slice (some ⟨b4, off4, none⟩) ats2.length c7) ∧ w'.cell? ⟨b3, off3 + k * 2, none⟩ = some (.string m1) ∧ w'.cell? ⟨b3, off3 + k * 2 + 1, none⟩ = some (.string x1) ∧ w'.cell? ⟨b4, off4 + k * 2, none⟩ = some (.string m2) ∧ w'.cell? ⟨b4, off4 + k * 2 + 1, none⟩ = some (.string x2))
                          (first
                            | go_keep
                            | assumption)
                          (first
                            | fail)
                        go_wp2_with (fail)
                        go_ret
                        exact ⟨by rw [hsd.out, hA.out]; rfl, hbw.trans ((hbi.trans ((Below.refl _ wr).drew.mono (by have := hbi.size; omega))).mono hzw)⟩
                      · replace hA : Hid (M3.sameA ats1 ats2 = M3.sameA (ats1.drop (k + 1)) (ats2.drop (k + 1))) := by show _ = _; rw [hA, q1, q2, he4, he5]; rfl
                        go_wp2_with (fail)
                        go_region_held3 (fun w' => w'.cell? ⟨wo.heap.size, 2, none⟩ = some (.slice (some ⟨b3, off3, none⟩) ats1.length c5) ∧ w'.cell? ⟨wo.heap.size + 1, 2, none⟩ = some (.slice (some ⟨b4, off4, none⟩) ats2.length c7) ∧ w'.cell? ⟨b3, off3 + k * 2, none⟩ = some (.string m1) ∧ w'.cell? ⟨b3, off3 + k * 2 + 1, none⟩ = some (.string x1) ∧ w'.cell? ⟨b4, off4 + k * 2, none⟩ = some (.string m2) ∧ w'.cell? ⟨b4, off4 + k * 2 + 1, none⟩ = some (.string x2))
                          (first
                            | go_keep
                            | assumption)
                          (first
                            | fail)
                        go_wp2_with (fail)
                        go_roundw
                        case rel => exact ⟨k + 1, by omega, by rw [IntWalk.wrap64_in _ (by have := hb63.out; omega)]; rfl, hA, hbi.trans ((Below.refl _ wr).drew.mono (by have := hbi.size; omega)), hx8.below ((Below.refl _ wr).drew) hx8.lt, hy8.below ((Below.refl _ wr).drew) hy8.lt⟩
                        case measure => clear hA hsd; rw [IntWalk.wrap64_in _ (by have := hb63.out; omega)]; exact meas_nat hlk
                  · obtain rfl : k = ats1.length := by omega
                    have hs : Hid (M3.sameA ats1 ats2 = true) := by
                      show _ = _
                      rw [hA.out, List.drop_length, hla.out, List.drop_length]; rfl
                    clear hA
                    go_wp2_with (fail)
                    refine (hih.out _ hbi).mono ?_
                    rintro e w9 ⟨rfl, hb9⟩
                    have hzi := hbi.size
                    have hbo : Below wo.heap.size wo w9 := hbi.trans (hb9.mono hzi)
                    generalize M3.sameN ks1 ks2 = r at *
                    cases r
                    · go_wp2_with (fail)
                      go_ret
                      exact ⟨by rw [hsd.out, hs.out]; rfl, hbw.trans (hbo.mono hzw)⟩
                    · go_wp2_with (fail)
                      go_roundw
                      case rel => exact ⟨i + 1, by omega, by go_num, by show _ = _; rw [hsd.out, hs.out]; simp, hbw.trans (hbo.mono hzw)⟩
                      case measure => simp [intOf]; omega
              · have hla1 : ((ats1.length : Int) == (ats2.length : Int)) = false := by simpa using fun h => hla (by omega)
                replace hsd : Hid (M3.sameN a b = false) := by show _ = _; rw [hsd, M3.sameA_len _ _ hla]; simp
                go_wp2_with (fail)
                go_ret
                exact ⟨by rw [hsd.out]; rfl, hbw.trans (hB2.mono hzw)⟩
      · obtain rfl : i = a.length := by omega
        have hs : Hid (M3.sameN a b = true) := by
          show _ = _
          rw [hv.out, List.drop_length, hne.out, List.drop_length]; exact M3.sameN_nil
        clear hv
        go_wp2
        go_ret
        exact ⟨by rw [hs.out]; rfl, hbw⟩
  · have hs : Hid (M3.sameN a b = false) := M3.sameN_len a b hne
    have hz : ((a.length : Int) == (b.length : Int)) = false := by simpa using fun h => hne (by omega)
    go_enter Tryz.func10, Tryz.ntmps10
    go_wp2
    go_ret
    exact ⟨by rw [hs.out]; rfl, Below.refl _ _⟩
end Go.Proofs.YteefodibpjgicaaGreat

namespace Go.Proofs.YteefodibpjgicaaGreat
open Go.RowKit
theorem few_size (s : ByteArray) : (M3.few s).size ≤ 30 := by
  unfold M3.few
  split
  · simp [ByteArray.size_extract]; omega
  · omega
theorem cut_weight (l : List Nd) (m : Nat) : M3.weight (M3.cut l m).1 + 6 * (M3.cut l m).2 ≤ 6 * m := by
  induction l using Nd.ind generalizing m with
  | h0 => rw [M3.cut_nil, M3.weight_nil]; simp
  | h1 k n a t ks r ih1 ih2 =>
    cases m with
    | zero => rw [M3.cut_zero, M3.weight_nil]; simp
    | succ m =>
      rw [M3.cut_cons, M3.weight_cons]
      have h1 := ih1 m
      have h2 := ih2 (M3.cut ks m).2
      simp only [Nd.kids, Nd.attrs]
      have h3 : ((a.take 5).map M3.fewA).length ≤ 5 := by simp; omega
      omega
theorem fewN_weight (l : List Nd) : M3.weight (fewN l) ≤ 240 := by
  have := cut_weight l 40
  unfold fewN
  omega
theorem fitN_append {a b : List Nd} : FitN (a ++ b) ↔ FitN a ∧ FitN b := by
  induction a with
  | nil => simp [fitN_nil]
  | cons x r ih => rw [List.cons_append, fitN_cons, fitN_cons, ih]; simp [and_assoc]
end Go.Proofs.YteefodibpjgicaaGreat

namespace Go.Proofs.YteefodibpjgicaaGreat
open Go.RowKit
theorem weight_push (out : List Nd) (x : Nd) : M3.weight (M3.push out x) ≤ M3.weight out + M3.weight [x] := by
  cases h : M3.bareB x
  · rcases List.eq_nil_or_concat out with rfl | ⟨o, y, rfl⟩
    · rw [M3.push_none h]; omega
    · rw [List.concat_eq_append, M3.push_snoc h]
      split
      · rw [M3.weight_append, M3.weight_append]
        have : M3.weight [M3.withText y (M3.cat y.text x.text)] = M3.weight [y] := by
          rw [M3.weight_cons, M3.weight_cons, M3.withText_attrs, M3.withText_kids]
        omega
      · rw [M3.weight_append]; omega
  · rw [M3.push_bare h]; omega
theorem weight_merge (l : List Nd) : M3.weight (M3.merge l) ≤ M3.weight l := by
  have key : ∀ (l out : List Nd), M3.weight (l.foldl M3.push out) ≤ M3.weight out + M3.weight l := by
    intro l
    induction l with
    | nil => intro out; rw [M3.weight_nil]; exact Nat.le_refl _
    | cons x r ih =>
      intro out
      have h1 := ih (M3.push out x)
      have h2 := weight_push out x
      have h3 : M3.weight (x :: r) = M3.weight [x] + M3.weight r := by rw [← List.singleton_append, M3.weight_append]
      rw [List.foldl_cons, h3]
      omega
  have := key l []
  rw [M3.weight_nil] at this
  simpa [M3.merge] using this
theorem txtN_push (out : List Nd) (x : Nd) : txtN (M3.push out x) ≤ txtN out + x.text.size := by
  cases h : M3.bareB x
  · rcases List.eq_nil_or_concat out with rfl | ⟨o, y, rfl⟩
    · rw [M3.push_none h, txtN_cons]; exact Nat.le_of_eq (by rw [Nat.add_comm])
    · rw [List.concat_eq_append, M3.push_snoc h]
      split
      · rw [txtN_append, txtN_append, txtN_cons, txtN_cons, M3.withText_text, cat_size]
        have : txtN [] = 0 := rfl
        omega
      · rw [txtN_append, txtN_cons]
        have : txtN [] = 0 := rfl
        omega
  · rw [M3.push_bare h]; omega
theorem txtN_merge (l : List Nd) : txtN (M3.merge l) ≤ txtN l := by
  have key : ∀ (l out : List Nd), txtN (l.foldl M3.push out) ≤ txtN out + txtN l := by
    intro l
    induction l with
    | nil => intro out; exact Nat.le_add_right _ _
    | cons x r ih =>
      intro out
      have h1 := ih (M3.push out x)
      have h2 := txtN_push out x
      rw [List.foldl_cons, txtN_cons]
      omega
  have := key l []
  have h0 : txtN ([] : List Nd) = 0 := rfl
  rw [h0] at this
  simpa [M3.merge] using this
theorem txtN_fit (l : List Nd) (b : Nat) (h : ∀ x ∈ l, x.text.size ≤ b) : txtN l ≤ l.length * b := by
  induction l with
  | nil => exact Nat.zero_le _
  | cons x r ih =>
    rw [txtN_cons, List.length_cons, Nat.add_mul]
    have h1 := h x (by simp)
    have h2 := ih (fun y hy => h y (by simp [hy]))
    omega
def RepPost (l : List Nd) (w : World) (e : Ending) (w' : World) : Prop := ∃ v', e = .returned v' ∧ RepN (fun b => b < w'.heap.size) w' v' l ∧ Below w.heap.size w w'
end Go.Proofs.YteefodibpjgicaaGreat

namespace Go.Proofs.YteefodibpjgicaaGreat
open Go.RowKit Go.ChangeShapes Go.WideShapes
section
variable {H : Type} {enc : TypeId × Value → H} {w : World} {base : Nat} {spare : Nat → Bool} {held : Bool}
end
theorem Row.atS {S : Nat → Prop} {w : World} {a : Option Addr} {n cap : Nat} {l : List ByteArray} (h : Row S w 1 (.slice a n cap) l.length (l.flatMap fun s => [.string s])) (i : Nat) (hi : i < l.length) :
    ∃ b off, a = some ⟨b, off, none⟩ ∧ S b ∧ w.cell? ⟨b, off + i, none⟩ = some (.string l[i]) := by
  obtain ⟨h0, a', cap', h1, h2, h3, h4, h5⟩ := h
  cases h1
  obtain ⟨b, off, rfl, h7, h8⟩ := h5 (by omega)
  refine ⟨b, off, rfl, h7, h8 i _ ?_⟩
  have : l.flatMap (fun s => [Value.string s]) = l.map Value.string := (List.map_eq_flatMap).symm
  rw [this, List.getElem?_map, List.getElem?_eq_getElem hi]; rfl
theorem fitN_iff {l : List Nd} : FitN l ↔ ∀ x ∈ l, Fit1 x ∧ FitN x.kids := by
  induction l with
  | nil => simp [fitN_nil]
  | cons x r ih => rw [fitN_cons, ih]; simp; exact ⟨fun h => ⟨⟨h.1, h.2.1⟩, h.2.2⟩, fun h => ⟨h.1.1, h.1.2, h.2⟩⟩
end Go.Proofs.YteefodibpjgicaaGreat

namespace Go.Proofs.YteefodibpjgicaaGreat
open Go.RowKit
def behind (l : List Nd) : Nat → Bool
  | 0 => false
  | i + 1 => match l[i]? with | some x => x.kind == 2 | none => false
end Go.Proofs.YteefodibpjgicaaGreat

namespace Go.Proofs.YteefodibpjgicaaGreat
namespace M3
theorem nilB_empty : nilB ⟨#[]⟩ = true := nilB_iff.2 rfl
def wordsL : List ByteArray := [⟨#[97]⟩, ⟨#[98]⟩, ⟨#[112]⟩, ⟨#[117, 108]⟩, ⟨#[108, 105]⟩, ⟨#[98, 114]⟩, ⟨#[105, 109, 103]⟩, ⟨#[100, 105, 118]⟩, ⟨#[115, 99, 114, 105, 112, 116]⟩, ⟨#[120, 45, 121]⟩]
def attrsL : List ByteArray := [⟨#[105, 100]⟩, ⟨#[104, 114, 101, 102]⟩, ⟨#[116, 105, 116, 108, 101]⟩, ⟨#[100, 97, 116, 97, 45, 97]⟩, ⟨#[111, 110, 99, 108, 105, 99, 107]⟩]
def sumB (l : List UInt8) : Nat := (l.map UInt8.toNat).sum
def wordN (s : ByteArray) : ByteArray := if namedB s.data.toList then s else wordsL.getD (sumB s.data.toList % 10) ⟨#[]⟩
def attrN (s : ByteArray) : ByteArray := if attributedB s.data.toList then s else attrsL.getD (s.size % 5) ⟨#[]⟩
def rightN (s : ByteArray) : ByteArray := ⟨(M1.right s.data.toList).toArray⟩
theorem rightN_isB (s : ByteArray) : M1.isB (rightN s).data.toList = true := M1.isB_right _
theorem rightN_size (s : ByteArray) : (rightN s).size ≤ 4 * s.size := M1.right_len s.data.toList
theorem isB_lo (l : List UInt8) (h : ∀ c ∈ l, c.toNat < 128 ∧ c.toNat ≠ 0 ∧ c.toNat ≠ 13) : M1.isB l = true := by
  induction l with
  | nil => exact M1.isB_nil
  | cons c t ih =>
    obtain ⟨h1, h2, h3⟩ := h c (by simp)
    rw [M1.isB_step _ (by simp)]
    have hd : M1.dec (c :: t) = (c.toNat, 1) := M2.dec_lo c t h1
    rw [hd]
    have h4 : c.toNat ≠ 65533 := by omega
    simp [h2, h3, h4]
    exact ih (fun x hx => h x (by simp [hx]))
theorem wordsL_ok : ∀ i, i < 10 → namedB (wordsL.getD i ⟨#[]⟩).data.toList = true ∧ (wordsL.getD i ⟨#[]⟩).size ≤ 6 := by decide
theorem attrsL_low : ∀ i, i < 5 → ((attrsL.getD i ⟨#[]⟩).data.toList.all fun c => decide (c.toNat < 128 ∧ c.toNat ≠ 0 ∧ c.toNat ≠ 13)) = true ∧ !(attrsL.getD i ⟨#[]⟩).data.toList.isEmpty = true ∧ (attrsL.getD i ⟨#[]⟩).data.toList.any capB = false ∧ (attrsL.getD i ⟨#[]⟩).data.toList.any badB = false ∧ (attrsL.getD i ⟨#[]⟩).size ≤ 7 := by decide
theorem wordN_ok (s : ByteArray) : namedB (wordN s).data.toList = true := by
  unfold wordN
  split
  · assumption
  · exact (wordsL_ok _ (Nat.mod_lt _ (by decide))).1
theorem wordN_size (s : ByteArray) (b : Nat) (h : s.size ≤ b) (h6 : 6 ≤ b) : (wordN s).size ≤ b := by
  unfold wordN
  split
  · exact h
  · have := (wordsL_ok _ (Nat.mod_lt (sumB s.data.toList) (by decide : 0 < 10))).2; omega
theorem attrN_ok (s : ByteArray) : attributedB (attrN s).data.toList = true := by
  unfold attrN
  split
  · assumption
  · obtain ⟨h1, h2, h3, h4, _⟩ := attrsL_low _ (Nat.mod_lt s.size (by decide : 0 < 5))
    unfold attributedB
    have h5 : M1.isB (attrsL.getD (s.size % 5) ⟨#[]⟩).data.toList = true := isB_lo _ (fun c hc => by have := List.all_eq_true.1 h1 c hc; simpa using this)
    rw [h5, h3, h4]
    simpa using h2
theorem attrN_size (s : ByteArray) (b : Nat) (h : s.size ≤ b) (h7 : 7 ≤ b) : (attrN s).size ≤ b := by
  unfold attrN
  split
  · exact h
  · have := (attrsL_low _ (Nat.mod_lt s.size (by decide : 0 < 5))).2.2.2.2; omega
def addA (acc : List Att) (a : Att) : List Att := if (valueOf (attrN a.name) acc).isSome then acc else acc ++ [⟨attrN a.name, rightN a.value⟩]
def goodA (l : List Att) : List Att := l.foldl addA []
theorem goodA_snoc (l : List Att) (a : Att) : goodA (l ++ [a]) = addA (goodA l) a := by simp [goodA]
def kindN (k : Int) : Int := if k < 1 ∨ 3 < k then 1 else k
def goodN : List Nd → List Nd
  | [] => []
  | .mk k n a t ks :: r => push' (if kindN k = 1 then .mk 1 (wordN n) (goodA a) ⟨#[]⟩ (merge (goodN ks)) else .mk (kindN k) ⟨#[]⟩ [] (rightN t) []) (goodN r)
termination_by l => SizeOf.sizeOf l
where push' (x : Nd) (r : List Nd) : List Nd := x :: r
theorem goodN_nil : goodN [] = [] := by rw [goodN]
def good1 (x : Nd) : Nd := if kindN x.kind = 1 then .mk 1 (wordN x.name) (goodA x.attrs) ⟨#[]⟩ (merge (goodN x.kids)) else .mk (kindN x.kind) ⟨#[]⟩ [] (rightN x.text) []
theorem good1_mk (k : Int) (n : ByteArray) (a : List Att) (t : ByteArray) (ks : List Nd) : good1 (.mk k n a t ks) = if kindN k = 1 then .mk 1 (wordN n) (goodA a) ⟨#[]⟩ (merge (goodN ks)) else .mk (kindN k) ⟨#[]⟩ [] (rightN t) [] := rfl
theorem goodN_cons (x : Nd) (r : List Nd) : goodN (x :: r) = good1 x :: goodN r := by cases x; rw [goodN]; rfl
theorem goodN_map (l : List Nd) : goodN l = l.map good1 := by
  induction l with
  | nil => exact goodN_nil
  | cons x r ih => rw [goodN_cons, ih]; rfl
def good (l : List Nd) : List Nd := merge (goodN l)
theorem addA_len (acc : List Att) (a : Att) : (addA acc a).length ≤ acc.length + 1 := by unfold addA; split <;> simp
theorem goodA_len (l : List Att) : (goodA l).length ≤ l.length := by
  have key : ∀ (l acc : List Att), (l.foldl addA acc).length ≤ acc.length + l.length := by
    intro l
    induction l with
    | nil => intro acc; exact Nat.le_refl _
    | cons a r ih => intro acc; have h1 := ih (addA acc a); have h2 := addA_len acc a; rw [List.foldl_cons, List.length_cons]; omega
  have := key l []
  simpa [goodA] using this
theorem valueOf_none (nm : ByteArray) (l : List Att) : valueOf nm l = none ↔ ∀ a ∈ l, eqB a.name nm = false := by
  induction l with
  | nil => simp [valueOf]
  | cons a r ih =>
    rw [valueOf]
    cases h : eqB a.name nm
    · simp [ih, h]
    · simp [h]
theorem goodA_all {P : Att → Prop} (l : List Att) (h : ∀ a ∈ l, P ⟨attrN a.name, rightN a.value⟩) : ∀ a ∈ goodA l, P a := by
  have key : ∀ (l acc : List Att), (∀ a ∈ l, P ⟨attrN a.name, rightN a.value⟩) → (∀ a ∈ acc, P a) → ∀ a ∈ l.foldl addA acc, P a := by
    intro l
    induction l with
    | nil => intro acc _ h; exact h
    | cons a r ih =>
      intro acc h1 h2
      rw [List.foldl_cons]
      refine ih _ (fun x hx => h1 x (by simp [hx])) ?_
      unfold addA
      split
      · exact h2
      · intro x hx
        rcases List.mem_append.1 hx with hx | hx
        · exact h2 x hx
        · simp at hx; subst hx; exact h1 a (by simp)
  exact key l [] h (fun a ha => by cases ha)
def Uniq : List Att → Prop
  | [] => True
  | a :: r => (∀ b ∈ r, eqB b.name a.name = false) ∧ Uniq r
theorem uniq_snoc {l : List Att} {a : Att} (h : Uniq l) (ha : ∀ b ∈ l, eqB b.name a.name = false) : Uniq (l ++ [a]) := by
  induction l with
  | nil => exact ⟨(fun b hb => by cases hb), trivial⟩
  | cons b r ih =>
    refine ⟨fun c hc => ?_, ih h.2 (fun c hc => ha c (by simp [hc]))⟩
    rcases List.mem_append.1 hc with hc | hc
    · exact h.1 c hc
    · simp at hc; subst hc
      have := ha b (by simp)
      rw [eqB_false] at this ⊢
      exact fun e => this e.symm
theorem goodA_uniq (l : List Att) : Uniq (goodA l) := by
  have key : ∀ (l acc : List Att), Uniq acc → Uniq (l.foldl addA acc) := by
    intro l
    induction l with
    | nil => intro acc h; exact h
    | cons a r ih =>
      intro acc h
      rw [List.foldl_cons]
      refine ih _ ?_
      unfold addA
      split
      · exact h
      · rename_i hn
        have hn' : valueOf (attrN a.name) acc = none := by
          cases hv : valueOf (attrN a.name) acc with
          | none => rfl
          | some _ => rw [hv] at hn; simp at hn
        exact uniq_snoc h ((valueOf_none _ _).1 hn')
  exact key l [] trivial
theorem names_ok (l : List Att) : ∀ seen : List ByteArray, (∀ a ∈ l, attributedB a.name.data.toList = true) → Uniq l → (∀ a ∈ l, ∀ s ∈ seen, eqB a.name s = false) → namesE seen l = 0 := by
  induction l with
  | nil => intro seen _ _ _; rfl
  | cons a r ih =>
    intro seen h1 h2 h3
    have hs : seen.any (eqB a.name) = false := by
      rw [List.any_eq_false]
      intro s hs
      simpa using h3 a (by simp) s hs
    rw [namesE, h1 a (by simp), if_pos rfl, hs, if_neg (by simp)]
    refine ih _ (fun b hb => h1 b (by simp [hb])) h2.2 (fun b hb s hs => ?_)
    rcases List.mem_append.1 hs with hs | hs
    · exact h3 b (by simp [hb]) s hs
    · simp at hs; subst hs; exact h2.1 b hb
theorem values_ok (l : List Att) (h : ∀ a ∈ l, M1.isB a.value.data.toList = true) : valuesE l = 0 := by
  induction l with
  | nil => rfl
  | cons a r ih => rw [valuesE, h a (by simp), if_pos rfl, ih (fun b hb => h b (by simp [hb]))]
theorem kindN_in (k : Int) : kindN k = 1 ∨ kindN k = 2 ∨ kindN k = 3 := by unfold kindN; split <;> omega
theorem good_ok (l : List Nd) : ∀ x ∈ goodN l, okP x := by
  induction l using Nd.ind with
  | h0 => intro x hx; rw [goodN_nil] at hx; cases hx
  | h1 k n at_ t ks r ih1 ih2 =>
    intro x hx
    rw [goodN_cons] at hx
    rcases List.mem_cons.1 hx with rfl | hx
    · rw [good1_mk]
      by_cases h1 : kindN k = 1
      · rw [if_pos h1]
        have hk : isText (.mk 1 (wordN n) (goodA at_) ⟨#[]⟩ (merge (goodN ks))) = false := rfl
        unfold okP
        rw [hk, if_neg (by simp)]
        refine ⟨?_, may_merge _ ih1⟩
        show elemE _ = 0
        show (if nilB ⟨#[]⟩ = true then (if namedB (wordN n).data.toList = true then (if namesE [] (goodA at_) = 0 then valuesE (goodA at_) else namesE [] (goodA at_)) else 4) else 7) = (0 : Int)
        rw [nilB_empty, wordN_ok, names_ok _ [] (goodA_all at_ (fun a _ => attrN_ok _)) (goodA_uniq _) (fun _ _ s hs => by cases hs), values_ok _ (goodA_all at_ (fun a _ => rightN_isB _))]
        rfl
      · rw [if_neg h1]
        rcases kindN_in k with h | h | h
        · exact absurd h h1
        · rw [h]
          exact ⟨by show (nilB ⟨#[]⟩ && ([] : List Att).isEmpty && ([] : List Nd).isEmpty) = true; rw [nilB_empty]; rfl, rightN_isB t⟩
        · rw [h]
          refine ⟨?_, mayE_nil _⟩
          show (if (nilB ⟨#[]⟩ && ([] : List Att).isEmpty && ([] : List Nd).isEmpty) = true then (if M1.isB (rightN t).data.toList = true then (0 : Int) else 2) else 7) = 0
          rw [nilB_empty, rightN_isB]; rfl
    · exact ih2 x hx
theorem good_may (l : List Nd) : mayE false (good l) = 0 := may_merge _ (good_ok l)
end M3
end Go.Proofs.YteefodibpjgicaaGreat

namespace Go.Proofs.YteefodibpjgicaaGreat
open Go.RowKit
theorem sumB_succ (l : List UInt8) (k : Nat) (h : k < l.length) : M3.sumB (l.take (k + 1)) = M3.sumB (l.take k) + l[k].toNat := by
  unfold M3.sumB
  rw [List.take_succ_eq_append_getElem h, List.map_append, List.sum_append]
  simp
theorem sumB_le (l : List UInt8) : M3.sumB l ≤ 255 * l.length := by
  unfold M3.sumB
  induction l with
  | nil => simp
  | cons c r ih => simp only [List.map_cons, List.sum_cons, List.length_cons]; have := c.toNat_lt; omega
def StrPost (s : ByteArray) (w : World) (e : Ending) (w' : World) : Prop := e = .returned (.string s) ∧ Below w.heap.size w w'
set_option maxHeartbeats 4000000 in
set_option maxRecDepth 100000 in
theorem ref03Word (s : ByteArray) (w : World) (hs : s.size ≤ 1073741824) : Calls Tryz.prog 47 #[.string s] w (StrPost (M3.wordN s) w) := by
  have hN := Lib.hid (fun W => ref03Named s W (by omega))
  have hw : Hid (M3.wordN s = if M3.namedB s.data.toList then s else M3.wordsL.getD (M3.sumB s.data.toList % 10) ⟨#[]⟩) := rfl
  generalize M3.namedB s.data.toList = p at *
  have hbx := Box.new w 9 (M3.wordsL.map Value.string)
  have hb0 : Below w.heap.size w (w.alloc (.cells (M3.wordsL.map Value.string).toArray 9)) := (Below.refl _ _).alloc (Nat.le_refl _) _
  have hlen : s.data.toList.length = s.size := rfl
  have hle := sumB_le s.data.toList
  go_enter Tryz.func47, Tryz.ntmps47
  go_wp2_with fail
  obtain ⟨W0, hW0⟩ : ∃ W0, w.alloc (.cells (M3.wordsL.map Value.string).toArray 9) = W0 := ⟨_, rfl⟩
  rw [hW0] at hbx hb0
  change w.alloc (.cells #[.string ⟨#[97]⟩, .string ⟨#[98]⟩, .string ⟨#[112]⟩, .string ⟨#[117, 108]⟩, .string ⟨#[108, 105]⟩, .string ⟨#[98, 114]⟩, .string ⟨#[105, 109, 103]⟩, .string ⟨#[100, 105, 118]⟩, .string ⟨#[115, 99, 114, 105, 112, 116]⟩, .string ⟨#[120, 45, 121]⟩] 9) = W0 at hW0
  rw [hW0]
  clear hW0
  go_loop [4, 5] (fun u4 u5 => ∃ k : Nat, k ≤ s.size ∧ u5 = .int .i64 (k : Int) ∧ u4 = .int .i64 (M3.sumB (s.data.toList.take k) : Int)) (fun _ u5 => s.size - (intOf u5).toNat)
  case atStart => exact ⟨0, by omega, rfl, by simp [M3.sumB]⟩
  case round =>
    obtain ⟨k, hk, rfl, rfl⟩ := hrel
    have hl2 := sumB_le (s.data.toList.take k)
    have hl3 : (s.data.toList.take k).length ≤ k := List.length_take_le _ _
    by_cases hlt : k < s.size
    · have hsu := sumB_succ s.data.toList k hlt
      have hsu2 : Hid (M3.sumB (s.data.toList.take (k + 1)) = M3.sumB (s.data.toList.take k) + s[k].toNat) := hsu
      clear hsu
      have hb := s[k].toNat_lt
      generalize M3.sumB (s.data.toList.take k) = m at *
      go_wp2_with fail
      go_round
      case rel => exact ⟨k + 1, by omega, by go_num, by rw [hsu2.out]; go_num⟩
      case measure => exact meas_nat hlt
    · obtain rfl : k = s.size := by omega
      rw [List.take_of_length_le (show s.data.toList.length ≤ s.size from Nat.le_refl _)] at *
      generalize M3.sumB s.data.toList = m at *
      cases p
      · replace hw : Hid (M3.wordN s = M3.wordsL.getD (m % 10) ⟨#[]⟩) := hw
        go_wp2_with fail
        refine (hN.out _).mono ?_
        rintro e w1 ⟨rfl, rfl⟩
        have hm10 : m % 10 < 10 := Nat.mod_lt _ (by decide)
        have hcell := hbx.cell (i := m % 10) (v := .string (M3.wordsL.getD (m % 10) ⟨#[]⟩)) (by
          rw [List.getElem?_map, List.getElem?_eq_getElem (by exact hm10), List.getD_eq_getElem?_getD, List.getElem?_eq_getElem (by exact hm10)]; rfl)
        generalize M3.wordsL.getD (m % 10) ⟨#[]⟩ = ans at *
        have hm0 : (0 : Int) ≤ (m : Int) := by omega
        have hmi : (m : Int) % 10 = ((m % 10 : Nat) : Int) := by omega
        have hmj : ((m % 10 : Nat) : Int) < 10 := by omega
        generalize m % 10 = j at *
        go_wp2_with fail
        go_ret
        exact ⟨by rw [hw.out]; rfl, hb0⟩
      · replace hw : Hid (M3.wordN s = s) := hw
        go_wp2_with fail
        refine (hN.out _).mono ?_
        rintro e w1 ⟨rfl, rfl⟩
        go_wp2_with fail
        go_ret
        exact ⟨by rw [hw.out]; rfl, hb0⟩
set_option maxHeartbeats 4000000 in
set_option maxRecDepth 100000 in
theorem ref03Attribute (s : ByteArray) (w : World) (hs : s.size ≤ 268435456) : Calls Tryz.prog 48 #[.string s] w (StrPost (M3.attrN s) w) := by
  have hN := Lib.hid (ref03Attributed s w hs)
  have hw : Hid (M3.attrN s = if M3.attributedB s.data.toList then s else M3.attrsL.getD (s.size % 5) ⟨#[]⟩) := rfl
  generalize M3.attributedB s.data.toList = p at *
  go_enter Tryz.func48, Tryz.ntmps48
  go_wp2_with fail
  refine hN.out.mono ?_
  rintro e w1 ⟨rfl, hb1⟩
  cases p
  · replace hw : Hid (M3.attrN s = M3.attrsL.getD (s.size % 5) ⟨#[]⟩) := hw
    have hbx := Box.new w1 9 (M3.attrsL.map Value.string)
    have hb0 : Below w1.heap.size w1 (w1.alloc (.cells (M3.attrsL.map Value.string).toArray 9)) := (Below.refl _ _).alloc (Nat.le_refl _) _
    have hm10 : s.size % 5 < 5 := Nat.mod_lt _ (by decide)
    have hcell := hbx.cell (i := s.size % 5) (v := .string (M3.attrsL.getD (s.size % 5) ⟨#[]⟩)) (by
      rw [List.getElem?_map, List.getElem?_eq_getElem (by exact hm10), List.getD_eq_getElem?_getD, List.getElem?_eq_getElem (by exact hm10)]; rfl)
    have hbb : Below w.heap.size w (w1.alloc (.cells (M3.attrsL.map Value.string).toArray 9)) := bt hb1 hb0
    change (w1.alloc (.cells #[.string ⟨#[105, 100]⟩, .string ⟨#[104, 114, 101, 102]⟩, .string ⟨#[116, 105, 116, 108, 101]⟩, .string ⟨#[100, 97, 116, 97, 45, 97]⟩, .string ⟨#[111, 110, 99, 108, 105, 99, 107]⟩] 9)).cell? _ = _ at hcell
    change Below w.heap.size w (w1.alloc (.cells #[.string ⟨#[105, 100]⟩, .string ⟨#[104, 114, 101, 102]⟩, .string ⟨#[116, 105, 116, 108, 101]⟩, .string ⟨#[100, 97, 116, 97, 45, 97]⟩, .string ⟨#[111, 110, 99, 108, 105, 99, 107]⟩] 9)) at hbb
    generalize M3.attrsL.getD (s.size % 5) ⟨#[]⟩ = ans at *
    have hmi : (s.size : Int) % 5 = ((s.size % 5 : Nat) : Int) := by omega
    have hmj : ((s.size % 5 : Nat) : Int) < 5 := by omega
    have hmk : (0 : Int) ≤ (s.size : Int) := by omega
    generalize s.size % 5 = j at *
    clear hbx hb0
    go_wp2_with fail
    go_ret
    exact ⟨by rw [hw.out]; rfl, hbb⟩
  · replace hw : Hid (M3.attrN s = s) := hw
    go_wp2_with fail
    go_ret
    exact ⟨by rw [hw.out]; rfl, hb1⟩
end Go.Proofs.YteefodibpjgicaaGreat

namespace Go.Proofs.YteefodibpjgicaaGreat
open Go.RowKit
set_option maxHeartbeats 1000000 in
set_option maxRecDepth 100000 in
theorem ref03Value (S : Nat → Prop) (x : Nd) (va vk : Value) (name : ByteArray) (w : World) (hS : ∀ b, S b → b < w.heap.size) (hat : Row S w 2 va x.attrs.length (cellsA x.attrs)) (hvk : ∃ a n c, vk = .slice a n c) :
    Calls Tryz.prog 49 #[x.val va vk, .string name] w fun e w' => e = .returned (valAns (M3.valueOf name x.attrs)) ∧ Below w.heap.size w w' := by
  obtain ⟨a, cap, rfl⟩ := hat.slice
  obtain ⟨_, hlc, hcm⟩ := hat.len
  obtain ⟨a2, n2, cap2, rfl⟩ := hvk
  cases x with | mk k n ats t ks =>
  simp only [Nd.attrs] at hat hlc hcm ⊢
  simp only [Nd.val, Nd.kind, Nd.name, Nd.text]
  have bx := Box.new w 41 [.int .i64 k, .string n, .slice a ats.length cap, .string t, .slice a2 n2 cap2]
  have hb := (Below.refl w.heap.size w).alloc (Nat.le_refl _) (.cells #[.int .i64 k, .string n, .slice a ats.length cap, .string t, .slice a2 n2 cap2] 41)
  have hat1 := hat.below hS hb
  have c2 := bx.cell (i := 2) rfl
  have hz : w.heap.size < (w.alloc (.cells #[.int .i64 k, .string n, .slice a ats.length cap, .string t, .slice a2 n2 cap2] 41)).heap.size := by simp
  go_enter Tryz.func49, Tryz.ntmps49
  change Box (w.alloc (.cells #[.int .i64 k, .string n, .slice a ats.length cap, .string t, .slice a2 n2 cap2] 41)) _ _ _ at bx
  change (w.alloc (.cells #[.int .i64 k, .string n, .slice a ats.length cap, .string t, .slice a2 n2 cap2] 41)).cell? _ = _ at c2
  go_wp2
  obtain ⟨W, hW⟩ : ∃ W, w.alloc (.cells #[.int .i64 k, .string n, .slice a ats.length cap, .string t, .slice a2 n2 cap2] 41) = W := ⟨_, rfl⟩
  rw [hW] at c2 hb hat1 hz ⊢
  clear hW bx hat
  go_loop [6] (fun u6 => ∃ i : Nat, i ≤ ats.length ∧ u6 = .int .i64 (i : Int) ∧ Hid (M3.valueOf name ats = M3.valueOf name (ats.drop i))) (fun u6 => ats.length - (intOf u6).toNat)
  case atStart => exact ⟨0, by omega, rfl, rfl⟩
  case round =>
    obtain ⟨i, hi, rfl, hv⟩ := hrel
    by_cases hlt : i < ats.length
    · obtain ⟨b, off, rfl, hSb, c0, c1⟩ := hat1.atA i hlt
      have hvd := M3.valueOf_drop name ats i hlt
      generalize ats[i].name = nm at *
      generalize ats[i].value = vl at *
      have hq : Hid (M3.eqB nm name = (nm.toList == name.toList)) := rfl
      cases he : (nm.toList == name.toList)
      · rw [hq.out, he] at hvd
        replace hvd := Lib.hid (hv.out.trans hvd)
        clear hv hq
        go_wp2
        go_round
        case rel => exact ⟨i + 1, by omega, by go_num, hvd.out⟩
        case measure => simp [intOf]; omega
      · rw [hq.out, he] at hvd
        replace hvd := Lib.hid (hv.out.trans hvd)
        clear hv hq
        go_wp2
        go_ret2
        exact ⟨by rw [hvd.out]; rfl, hb⟩
    · have hvd : Hid (M3.valueOf name ats = none) := by show _ = _; rw [hv.out, List.drop_of_length_le (by omega)]; rfl
      go_wp2
      go_ret2
      exact ⟨by rw [hvd.out]; rfl, hb⟩
end Go.Proofs.YteefodibpjgicaaGreat

namespace Go.Proofs.YteefodibpjgicaaGreat
def updF (f : Nat → Bool) (i : Nat) : Nat → Bool := fun j => if j = i then true else f j
@[simp] theorem updF_same (f : Nat → Bool) (i : Nat) : updF f i i = true := by simp [updF]
theorem updF_ne (f : Nat → Bool) {i j : Nat} (h : j ≠ i) : updF f i j = f j := by simp [updF, h]
def ordB (md : Region.Mode) (ops : Array Oper) : Bool :=
  (List.range ops.size).all fun i => match ops[i]? with | some o => o.after.all fun e => !Region.binds md e || decide (e.on < i) | none => true
theorem ordB_spec {md : Region.Mode} {ops : Array Oper} (h : ordB md ops = true) {i : Nat} {o : Oper} (hi : ops[i]? = some o) {e : Edge} (he : e ∈ o.after) (hb : Region.binds md e = true) : e.on < i := by
  have hlt := (Array.getElem?_eq_some_iff.1 hi).1
  unfold ordB at h
  rw [List.all_eq_true] at h
  have := h i (List.mem_range.2 hlt)
  rw [hi] at this
  simp only [Array.all_eq_true_iff_forall_mem, Bool.or_eq_true, Bool.not_eq_true', decide_eq_true_eq] at this
  rcases this e he with h | h
  · rw [hb] at h; cases h
  · exact h
def flags (listed : Array Bool) : Nat → Bool := fun i => listed.getD i true
theorem flags_set (listed : Array Bool) (i : Nat) : flags (listed.setIfInBounds i true) = updF (flags listed) i := by
  funext j
  unfold flags updF
  by_cases h : j = i
  · subst h
    rcases Nat.lt_or_ge j listed.size with h | h
    · simp [h]
    · simp
  · rw [if_neg h, getD_set_ne true (Ne.symm h)]
theorem flags_false {listed : Array Bool} {i : Nat} (h : listed.getD i false = true) : flags listed i = true := by
  unfold flags
  rcases Nat.lt_or_ge i listed.size with h' | h'
  · simp [h'] at h ⊢; exact h
  · simp [Array.getElem?_eq_none h'] at h
theorem false_flags {listed : Array Bool} {i : Nat} (hi : i < listed.size) (h : flags listed i = true) : listed.getD i false = true := by
  unfold flags at h
  simp [hi] at h ⊢; exact h
theorem all_of_ready_nil {md : Region.Mode} {ops : Array Oper} (hord : ordB md ops = true) {listed : Array Bool} (hs : listed.size = ops.size) (hr : Region.ready md ops listed = []) :
    ∀ i, i < ops.size → flags listed i = true := by
  intro i
  induction i using Nat.strongRecOn with
  | ind i ih =>
    intro hi
    cases hf : flags listed i with
    | true => rfl
    | false =>
      have : i ∈ Region.ready md ops listed := mem_ready.2 ⟨hf, ops[i], Array.getElem?_eq_getElem hi, fun e he hb => by
        have hlt := ordB_spec hord (Array.getElem?_eq_getElem hi) he hb
        exact false_flags (by rw [hs]; exact Nat.lt_trans hlt hi) (ih e.on hlt (Nat.lt_trans hlt hi))⟩
      rw [hr] at this; cases this
def leftOf (listed : Array Bool) : Nat := listed.toList.countP (fun b => !b)
theorem leftOf_set {listed : Array Bool} {i : Nat} (h : flags listed i = false) : leftOf (listed.setIfInBounds i true) + 1 = leftOf listed := by
  have hi : i < listed.size := by
    rcases Nat.lt_or_ge i listed.size with h' | h'
    · exact h'
    · simp [flags, Array.getElem?_eq_none h'] at h
  have hv : listed.toList[i]'(by simpa using hi) = false := by simpa [flags, hi] using h
  unfold leftOf
  rw [Array.toList_setIfInBounds]
  have h2 : i < listed.toList.length := by simpa using hi
  rw [List.countP_set h2, hv]
  have hp : 0 < listed.toList.countP (fun b => !b) := List.countP_pos_iff.2 ⟨false, by rw [← hv]; exact List.getElem_mem h2, rfl⟩
  simp only [Bool.not_true, Bool.not_false, if_true, Bool.false_eq_true, if_false]
  omega
theorem wpAnyIn_inv {F : Fence} {n : Nat} {P : Program} {md : Region.Mode} {ops : Array Oper} {Q : Exit → Act → World → Prop} (Inv : (Nat → Bool) → Act → World → Prop) (hord : ordB md ops = true)
    (hstep : ∀ i, i < ops.size → ∀ (f : Nat → Bool) (a : Act) (w : World), f i = false → (∀ j, Region.waitsFor md ops i j = true → f j = true) → Inv f a w → wpOpIn F n P ops Q i (Inv (updF f i)) a w)
    (hdone : ∀ (f : Nat → Bool) (a : Act) (w : World), (∀ i, i < ops.size → f i = true) → Inv f a w → Q .normal a w) :
    ∀ (fuel : Nat) (listed : Array Bool) (a : Act) (w : World), listed.size = ops.size → leftOf listed ≤ fuel → Inv (flags listed) a w → wpAnyIn F n P md ops Q fuel listed a w := by
  intro fuel
  induction fuel with
  | zero =>
    intro listed a w hs hl h
    have hr : Region.ready md ops listed = [] := by
      rw [List.eq_nil_iff_forall_not_mem]
      intro i hi
      have := leftOf_set (mem_ready.1 hi).1
      omega
    exact ⟨hr, hdone _ _ _ (all_of_ready_nil hord hs hr) h⟩
  | succ fuel ih =>
    intro listed a w hs hl h
    refine ⟨fun hr => hdone _ _ _ (all_of_ready_nil hord hs hr) h, fun i hi => ?_⟩
    obtain ⟨h0, o, ho, hall⟩ := mem_ready.1 hi
    have hlt := (Array.getElem?_eq_some_iff.1 ho).1
    refine wpOpIn_mono (fun a' w' h' => ih (listed.setIfInBounds i true) a' w' (by simpa using hs) (by have := leftOf_set h0; omega) ?_) (hstep i hlt (flags listed) a w h0 (fun j hj => ?_) h)
    · rw [flags_set]; exact h'
    · obtain ⟨oj, hoj, e, he, hb, rfl⟩ := Region.waitsFor_spec hj
      rw [ho] at hoj; cases hoj
      exact flags_false (hall e he hb)
theorem wpAny_inv {P : Program} {md : Region.Mode} {ops : Array Oper} {Q : Exit → Act → World → Prop} (Inv : (Nat → Bool) → Act → World → Prop) (hord : ordB md ops = true)
    (hstep : ∀ i, i < ops.size → ∀ (f : Nat → Bool) (a : Act) (w : World), f i = false → (∀ j, Region.waitsFor md ops i j = true → f j = true) → Inv f a w → wpOp P ops Q i (Inv (updF f i)) a w)
    (hdone : ∀ (f : Nat → Bool) (a : Act) (w : World), (∀ i, i < ops.size → f i = true) → Inv f a w → Q .normal a w) :
    ∀ (fuel : Nat) (listed : Array Bool) (a : Act) (w : World), listed.size = ops.size → leftOf listed ≤ fuel → Inv (flags listed) a w → wpAny P md ops Q fuel listed a w := by
  intro fuel
  induction fuel with
  | zero =>
    intro listed a w hs hl h
    have hr : Region.ready md ops listed = [] := by
      rw [List.eq_nil_iff_forall_not_mem]
      intro i hi
      have := leftOf_set (mem_ready.1 hi).1
      omega
    exact ⟨hr, hdone _ _ _ (all_of_ready_nil hord hs hr) h⟩
  | succ fuel ih =>
    intro listed a w hs hl h
    refine ⟨fun hr => hdone _ _ _ (all_of_ready_nil hord hs hr) h, fun i hi => ?_⟩
    obtain ⟨h0, o, ho, hall⟩ := mem_ready.1 hi
    have hlt := (Array.getElem?_eq_some_iff.1 ho).1
    refine wpOp_mono (fun a' w' h' => ih (listed.setIfInBounds i true) a' w' (by simpa using hs) (by have := leftOf_set h0; omega) ?_) (hstep i hlt (flags listed) a w h0 (fun j hj => ?_) h)
    · rw [flags_set]; exact h'
    · obtain ⟨oj, hoj, e, he, hb, rfl⟩ := Region.waitsFor_spec hj
      rw [ho] at hoj; cases hoj
      exact flags_false (hall e he hb)
theorem flags_none (k i : Nat) : flags (Array.replicate k false) i = decide (k ≤ i) := by
  unfold flags
  rcases Nat.lt_or_ge i k with h | h
  · simp [h]
  · simp [h]
theorem leftOf_none (k : Nat) : leftOf (Array.replicate k false) ≤ k := by
  unfold leftOf
  have := List.countP_le_length (p := fun b => !b) (l := (Array.replicate k false).toList)
  simpa using this
end Go.Proofs.YteefodibpjgicaaGreat

namespace Go.Proofs.YteefodibpjgicaaGreat
def updT (t : Nat → Value) (i : Nat) (v : Value) : Nat → Value := fun j => if j = i then v else t j
@[simp] theorem updT_same (t : Nat → Value) (i : Nat) (v : Value) : updT t i v i = v := by simp [updT]
theorem updT_ne (t : Nat → Value) {i j : Nat} (v : Value) (h : j ≠ i) : updT t i v j = t j := by simp [updT, h]
def Kn (Vs : List (Option Value)) (f : Nat → Bool) (t : Nat → Value) : Prop := ∀ j V, f j = true → Vs[j]? = some (some V) → t j = V
theorem Kn.none (Vs : List (Option Value)) (n : Nat) (h : Vs.length = n) (t : Nat → Value) : Kn Vs (flags (Array.replicate n false)) t := by
  intro j V hf hV
  rw [flags_none] at hf
  have h1 : n ≤ j := by simpa using hf
  rw [List.getElem?_eq_none (by omega)] at hV
  cases hV
theorem Kn.upd {Vs : List (Option Value)} {f : Nat → Bool} {t : Nat → Value} {i : Nat} {v : Value} (h : Kn Vs f t) (hv : ∀ V, Vs[i]? = some (some V) → v = V) : Kn Vs (updF f i) (updT t i v) := by
  intro j V hf hV
  by_cases e : j = i
  · subst e; rw [updT_same]; exact hv V hV
  · rw [updT_ne _ _ e]; rw [updF_ne _ e] at hf; exact h j V hf hV
theorem Kn.at_ {Vs : List (Option Value)} {f : Nat → Bool} {t : Nat → Value} {i : Nat} {v : Value} (h : Kn Vs f t) (hv : Vs[i]? = some (some v)) : Kn Vs (updF f i) (updT t i v) := h.upd (fun V e => by rw [hv] at e; cases e; rfl)
theorem Kn.free {Vs : List (Option Value)} {f : Nat → Bool} {t : Nat → Value} {i : Nat} {v : Value} (h : Kn Vs f t) (hv : Vs[i]? = some .none) : Kn Vs (updF f i) (updT t i v) := h.upd (fun V e => by rw [hv] at e; cases e)
theorem wp_region_known {id n : Nat} {P : Program} {ops : Array Oper} {Q : Exit → Act → World → Prop} {a : Act} {w : World} (Vs : List (Option Value)) (A : (Nat → Value) → Act) (I : (Nat → Bool) → (Nat → Value) → World → Prop) (t0 : Nat → Value)
    (hm : P.follows .mixedOrders = true) (hn : ops.size = n) (hl : Vs.length = n) (hord : ordB .any ops = true) (ha : a = A t0) (h0 : I (fun i => decide (n ≤ i)) t0 w.drew)
    (hstep : ∀ i, i < n → ∀ (f : Nat → Bool) (t : Nat → Value) (W : World), f i = false → (∀ j, Region.waitsFor .any ops i j = true → f j = true) → Kn Vs f t → I f t W →
      wpOp P ops Q i (fun a' W' => ∃ v, a' = A (updT t i v) ∧ Kn Vs (updF f i) (updT t i v) ∧ I (updF f i) (updT t i v) W') (A t) W)
    (hdone : ∀ (f : Nat → Bool) (t : Nat → Value) (W : World), (∀ i, i < n → f i = true) → Kn Vs f t → I f t W → Q .normal (A t) W) :
    (Code.region id ops true).wp P Q a w := by
  subst hn
  refine wp_region_any hm ?_
  change wpAny _ _ _ _ _ _ _ w.drew
  refine wpAny_inv (fun f ac W => ∃ t, ac = A t ∧ Kn Vs f t ∧ I f t W) hord ?_ ?_ _ _ _ _ (by simp) (leftOf_none _) ⟨t0, ha, Kn.none Vs _ hl t0, ?_⟩
  · rintro i hi f ac W hfi hwt ⟨t, rfl, hk, hI⟩
    refine wpOp_mono ?_ (hstep i hi f t W hfi hwt hk hI)
    rintro a' W' ⟨v, h1, h2, h3⟩
    exact ⟨_, h1, h2, h3⟩
  · rintro f ac W hall ⟨t, rfl, hk, hI⟩
    exact hdone f t W hall hk hI
  · rw [show flags (Array.replicate ops.size false) = fun i => decide (ops.size ≤ i) from funext (flags_none _)]
    exact h0
end Go.Proofs.YteefodibpjgicaaGreat

namespace Go.Proofs.YteefodibpjgicaaGreat
open Go.RowKit
def Sm1 (x : Nd) : Prop := x.name.size ≤ 30 ∧ x.text.size ≤ 30 ∧ ∀ a ∈ x.attrs, a.name.size ≤ 30 ∧ a.value.size ≤ 30
def Sm30 : List Nd → Prop
  | [] => True
  | .mk k n a t ks :: r => Sm1 (.mk k n a t ks) ∧ Sm30 ks ∧ Sm30 r
termination_by l => SizeOf.sizeOf l
theorem sm_nil : Sm30 [] := by rw [Sm30]; trivial
theorem sm_cons {x : Nd} {r : List Nd} : Sm30 (x :: r) ↔ Sm1 x ∧ Sm30 x.kids ∧ Sm30 r := by cases x; rw [Sm30]; rfl
theorem sm_iff {l : List Nd} : Sm30 l ↔ ∀ x ∈ l, Sm1 x ∧ Sm30 x.kids := by
  induction l with
  | nil => simp [sm_nil]
  | cons x r ih => rw [sm_cons, ih]; simp; exact ⟨fun h => ⟨⟨h.1, h.2.1⟩, h.2.2⟩, fun h => ⟨h.1.1, h.1.2, h.2⟩⟩
theorem cut_sm (l : List Nd) : ∀ m, Sm30 (M3.cut l m).1 := by
  induction l using Nd.ind with
  | h0 => intro m; rw [M3.cut_nil]; exact sm_nil
  | h1 k n ats t ks r ih1 ih2 =>
    intro m
    cases m with
    | zero => rw [M3.cut_zero]; exact sm_nil
    | succ m =>
      rw [M3.cut_cons]
      refine sm_cons.2 ⟨⟨few_size _, few_size _, fun a ha => ?_⟩, ih1 _, ih2 _⟩
      obtain ⟨b, _, rfl⟩ := List.mem_map.1 ha
      exact ⟨few_size _, few_size _⟩
theorem few_sm (l : List Nd) : Sm30 (fewN l) := cut_sm l 40
theorem good_len (l : List Nd) : (M3.goodN l).length = l.length := by rw [M3.goodN_map, List.length_map]
theorem good_weight (l : List Nd) : M3.weight (M3.goodN l) ≤ M3.weight l := by
  induction l using Nd.ind with
  | h0 => rw [M3.goodN_nil]; exact Nat.le_refl _
  | h1 k n ats t ks r ih1 ih2 =>
    rw [M3.goodN_cons, M3.weight_cons, M3.weight_cons, M3.good1_mk]
    have h1 := M3.goodA_len ats
    have h2 := weight_merge (M3.goodN ks)
    show _ ≤ 1 + ats.length + M3.weight ks + M3.weight r
    split
    · show 1 + (M3.goodA ats).length + M3.weight (M3.merge (M3.goodN ks)) + _ ≤ _; omega
    · show 1 + 0 + M3.weight [] + _ ≤ _; rw [M3.weight_nil]; omega
theorem good_texts (l : List Nd) (h : Sm30 l) : ∀ x ∈ M3.goodN l, x.text.size ≤ 120 := by
  intro x hx
  rw [M3.goodN_map] at hx
  obtain ⟨y, hy, rfl⟩ := List.mem_map.1 hx
  have := (sm_iff.1 h y hy).1.2.1
  unfold M3.good1
  split
  · show (⟨#[]⟩ : ByteArray).size ≤ _; decide
  · show (M3.rightN y.text).size ≤ _; have := M3.rightN_size y.text; omega
theorem good_txt (l : List Nd) (h : Sm30 l) : txtN (M3.goodN l) ≤ l.length * 120 := by
  have := txtN_fit _ 120 (good_texts l h)
  rwa [good_len] at this
def AttI (wr : World) (av a1 a2 : ByteArray) (f : Nat → Bool) (t : Nat → Value) (W : World) : Prop :=
  Below wr.heap.size wr W ∧ (f 19 = true → f 23 = false → Sl W (t 19) (u8s av.data.toList)) ∧ (f 23 = true → f 22 = true ∧ f 20 = true) ∧
    (f 22 = true → ∃ ga, t 22 = .pointer (some ⟨ga, 0, none⟩) ∧ wr.heap.size ≤ ga ∧ Box W ga 43 (bif f 23 then [.string a1, .string a2] else [.string ⟨#[]⟩, .string ⟨#[]⟩]))
theorem AttI.start (wr : World) (av a1 a2 : ByteArray) (t : Nat → Value) {f : Nat → Bool} (h1 : f 19 = false) (h2 : f 22 = false) (h3 : f 23 = false) : AttI wr av a1 a2 f t wr.drew :=
  ⟨(Below.refl _ _).drew, (fun h => by rw [h1] at h; cases h), (fun h => by rw [h3] at h; cases h), (fun h => by rw [h2] at h; cases h)⟩
theorem AttI.next {wr W W' : World} {av a1 a2 : ByteArray} {f : Nat → Bool} {t : Nat → Value} (h : AttI wr av a1 a2 f t W) (hb : Below W.heap.size W W') : AttI wr av a1 a2 f t W' := by
  obtain ⟨h1, h2, h3, h4⟩ := h
  refine ⟨h1.trans (hb.mono h1.size), fun hf hg => (h2 hf hg).below hb, h3, fun hf => ?_⟩
  obtain ⟨ga, e, hg, hbx⟩ := h4 hf
  exact ⟨ga, e, hg, hbx.below hb hbx.lt⟩
theorem AttI.conv {wr W : World} {av a1 a2 : ByteArray} {f : Nat → Bool} {t : Nat → Value} {x : Value} (h : AttI wr av a1 a2 f t W) (hs : Sl W x (u8s av.data.toList)) : AttI wr av a1 a2 (updF f 19) (updT t 19 x) W :=
  ⟨h.1, fun _ _ => by rw [updT_same]; exact hs, h.2.2.1, h.2.2.2⟩
theorem AttI.right {wr W : World} {av a1 a2 : ByteArray} {f : Nat → Bool} {t : Nat → Value} {x : Value} (h : AttI wr av a1 a2 f t W) : AttI wr av a1 a2 (updF f 20) (updT t 20 x) W :=
  ⟨h.1, h.2.1, fun hf => ⟨(h.2.2.1 hf).1, updF_same _ _⟩, h.2.2.2⟩
theorem AttI.made {wr W : World} {av a1 a2 : ByteArray} {f : Nat → Bool} {t : Nat → Value} (h : AttI wr av a1 a2 f t W) (hf : f 22 = false) :
    AttI wr av a1 a2 (updF f 22) (updT t 22 (.pointer (some ⟨W.heap.size, 0, none⟩))) (W.alloc (.cells #[.string ⟨#[]⟩, .string ⟨#[]⟩] 43)) := by
  have h23 : f 23 = false := by
    cases h2 : f 23
    · rfl
    · rw [(h.2.2.1 h2).1] at hf; cases hf
  have hb : Below W.heap.size W (W.alloc (.cells #[.string ⟨#[]⟩, .string ⟨#[]⟩] 43)) := (Below.refl _ _).alloc (Nat.le_refl _) _
  have hn := h.next hb
  refine ⟨hn.1, hn.2.1, fun h => ⟨updF_same _ _, (hn.2.2.1 h).2⟩, fun _ => ⟨W.heap.size, rfl, h.1.size, ?_⟩⟩
  rw [updF_ne f (by decide), h23]
  exact Box.new W 43 [.string ⟨#[]⟩, .string ⟨#[]⟩]
theorem AttI.put {wr W : World} {av a1 a2 : ByteArray} {f : Nat → Bool} {t : Nat → Value} {ga : Nat} {v : Value} (h : AttI wr av a1 a2 f t W) (hf : f 22 = true) (hf2 : f 20 = true) (ht : t 22 = .pointer (some ⟨ga, 0, none⟩)) (hg : wr.heap.size ≤ ga) (hbx : Box W ga 43 [.string ⟨#[]⟩, .string ⟨#[]⟩]) :
    AttI wr av a1 a2 (updF f 23) (updT t 23 v) ((W.setCell ⟨ga, 0, none⟩ (.string a1)).setCell ⟨ga, 1, none⟩ (.string a2)) := by
  refine ⟨(h.1.setCell (p := ⟨ga, 0, none⟩) hg _).setCell (p := ⟨ga, 1, none⟩) hg _, (fun _ hf23 => by rw [updF_same] at hf23; cases hf23), fun _ => ⟨by rw [updF_ne f (by decide)]; exact hf, by rw [updF_ne f (by decide)]; exact hf2⟩, fun _ => ⟨ga, by rw [updT_ne t v (by decide)]; exact ht, hg, ?_⟩⟩
  rw [updF_same]
  exact (hbx.set 0 (.string a1)).set 1 (.string a2)
theorem cell_of_below {B : Nat} {w w' : World} (hb : Below B w w') {b o : Nat} {v : Value} (h : w.cell? ⟨b, o, none⟩ = some v) (hlt : b < B) : w'.cell? ⟨b, o, none⟩ = some v := (hb.cell (p := ⟨b, o, none⟩) hlt).trans h
set_option maxHeartbeats 8000000 in
set_option maxRecDepth 100000 in
theorem ref03good (wt : Nat) : ∀ (S : Nat → Prop) (v : Value) (l : List Nd) (w : World), M3.weight l < wt → M3.weight l ≤ 1000000 → Sm30 l → (∀ b, S b → b < w.heap.size) → RepN S w v l →
    Calls Tryz.prog 34 #[v] w (FreshPost (M3.good l) w) := by
  induction wt with
  | zero => intro S v l w h; omega
  | succ wt ih =>
  intro S v l w hwt hw6 hsm hS hr
  have hll := M3.length_le_weight l
  obtain ⟨a, cap, rfl⟩ := hr.slice
  obtain ⟨_, hlc, hcm⟩ := hr.len
  replace ih := Lib.hid ih
  replace hsm := Lib.hid hsm
  go_enter Tryz.func34, Tryz.ntmps34
  go_wp2_with fail
  go_loopw [3, 4, 5, 6, 7, 8, 9] (fun u3 u4 _ _ _ _ _ wr => ∃ i : Nat, i ≤ l.length ∧ u4 = .int .i64 (i : Int) ∧ Fresh wr w.heap.size u3 (M3.goodN (l.take i)) ∧ Below w.heap.size w wr) (fun _ u4 _ _ _ _ _ _ => l.length - (intOf u4).toNat)
  case atStart => exact ⟨0, by omega, rfl, by rw [List.take_zero, M3.goodN_nil]; exact Fresh.nil _ _, Below.refl _ _⟩
  case round =>
    obtain ⟨i, hi, rfl, hf, hb⟩ := hrel
    have hz := hb.size
    by_cases hlt : i < l.length
    · obtain ⟨b, off, va, vk, rfl, hSb, c0, c1, c2, c3, c4, hrv⟩ := (hr.below hS hb).at_ i hlt
      have hbl := hS b hSb
      obtain ⟨hs1, hs2⟩ := sm_iff.1 hsm.out _ (List.getElem_mem hlt)
      have hwk := weight_mem (List.getElem_mem hlt)
      have hwx := weight_le (List.getElem_mem hlt)
      have hgt : M3.goodN (l.take (i + 1)) = M3.goodN (l.take i) ++ [M3.good1 l[i]] := by rw [List.take_succ_eq_append_getElem hlt, M3.goodN_map, M3.goodN_map, List.map_append]; rfl
      have hAl : (M3.goodN (l.take i)).length ≤ 1000000 := by rw [good_len]; have := List.length_take_le i l; omega
      generalize l[i] = x at *
      replace hgt := Lib.hid hgt
      generalize hA : M3.goodN (l.take i) = A at *
      replace hA := Lib.hid hA
      obtain ⟨a1, e1, rfl⟩ := hrv.at_.slice
      obtain ⟨a2, e2, rfl⟩ := hrv.kids.slice
      have hI0 : (0 : Int) ≤ (i : Int) := by omega
      have hI1 : (i : Int) < (l.length : Int) := by omega
      obtain ⟨wo, rfl⟩ : ∃ wo : World, wo = wr := ⟨_, rfl⟩
      cases x with | mk kd n ats t ks =>
      simp only [Nd.kind, Nd.name, Nd.text, Nd.attrs, Nd.kids] at *
      have hat0 : Row S wo 2 (.slice a1 ats.length e1) ats.length (cellsA ats) := hrv.at_
      have hkd0 : RepN S wo (.slice a2 ks.length e2) ks := hrv.kids
      replace hkd0 := Lib.hid hkd0
      clear hrv
      obtain ⟨zs, F, hownA, hocA, hspA⟩ := hf
      replace hocA := Lib.hid hocA
      replace hspA := Lib.hid hspA
      have hg1 := M3.good1_mk kd n ats t ks
      have hts : t.size ≤ 30 := hs1.2.1
      have hns : n.size ≤ 30 := hs1.1
      have has : ∀ a ∈ ats, a.name.size ≤ 30 ∧ a.value.size ≤ 30 := hs1.2.2
      replace has := Lib.hid has
      have hblo : b < wo.heap.size := by omega
      by_cases hk1 : M3.kindN kd = 1
      · rw [if_pos hk1] at hg1
        have hkq : Hid ((decide (kd < 1) || decide (3 < kd)) = true ∨ kd = 1) := by
          show _ ∨ _
          unfold M3.kindN at hk1
          by_cases h : kd < 1 ∨ 3 < kd
          · left; simpa using h
          · right; rw [if_neg h] at hk1; exact hk1
        go_upto_region 6 with (fail)
        go_cut [29] from 10 to 110 (fun s29 wx => s29 = .bool (decide (kd < 1) || decide (3 < kd)) ∧ wx = wo.alloc (.cells #[.int .i64 kd, .string ⟨#[]⟩, .slice none 0 0, .string ⟨#[]⟩, .slice none 0 0] 41))
        case first =>
          by_cases h1 : kd < 1
          · go_wp2_with fail
            go_meet
            case rel => exact ⟨by rw [show decide (kd < 1) = true from decide_eq_true (by omega)]; rfl, rfl⟩
          · go_wp2_with fail
            go_meet
            case rel => exact ⟨by rw [show decide (kd < 1) = false from decide_eq_false (by omega)]; rfl, rfl⟩
        case rest =>
          obtain ⟨rfl, rfl⟩ := hcut
          go_upto_if 29 with (fail)
          go_cut [] from 10 to 110 (fun wx => wx = wo.alloc (.cells #[.int .i64 1, .string ⟨#[]⟩, .slice none 0 0, .string ⟨#[]⟩, .slice none 0 0] 41))
          case first =>
            generalize hq : (decide (kd < 1) || decide (3 < kd)) = q at *
            cases q
            · obtain rfl : kd = 1 := by rcases hkq.out with h | h; cases h; exact h
              go_wp2_with fail
              go_meet
              case rel => rfl
            · go_wp2_with fail
              go_meet
              case rel => rfl
          case rest =>
            have hbx1 := Box.new wo 41 [.int .i64 1, .string ⟨#[]⟩, .slice none 0 0, .string ⟨#[]⟩, .slice none 0 0]
            have hbo1 : Below wo.heap.size wo (wo.alloc (.cells #[.int .i64 1, .string ⟨#[]⟩, .slice none 0 0, .string ⟨#[]⟩, .slice none 0 0] 41)) := (Below.refl _ _).alloc (Nat.le_refl _) _
            have hso : (wo.alloc (.cells #[.int .i64 1, .string ⟨#[]⟩, .slice none 0 0, .string ⟨#[]⟩, .slice none 0 0] 41)).heap.size = wo.heap.size + 1 := by simp
            change Box (wo.alloc (.cells #[.int .i64 1, .string ⟨#[]⟩, .slice none 0 0, .string ⟨#[]⟩, .slice none 0 0] 41)) _ _ _ at hbx1
            rw [← hcut] at hbx1 hbo1 hso
            clear hcut
            have r1 := (hbo1.cell (p := ⟨b, off + i * 5 + 1, none⟩) hblo).trans c1
            have q0 := hbx1.cell (i := 0) rfl
            have hWd := Lib.hid (ref03Word n wc (by omega))
            have hwn := M3.wordN_size n 30 hns (by omega)
            generalize M3.wordN n = nm at *
            replace hso := Lib.hid hso
            go_wp2_with fail
            refine hWd.out.mono ?_
            rintro e w2 ⟨rfl, hb2⟩
            have hz2 := hb2.size
            have hbo2 : Below wo.heap.size wo w2 := hbo1.trans (hb2.mono (by have := hso.out; omega))
            have hbx2 := hbx1.below hb2 hbx1.lt
            have d1 := hbx2.cell (i := 1) rfl
            have f1 := hbx2.free 1
            clear hWd hbx1 hbo1 hb2 q0 r1
            go_wp2_with fail
            have hbx3 := hbx2.set 1 (.string nm)
            have hbo3 : Below wo.heap.size wo (w2.setCell ⟨wo.heap.size, 1, none⟩ (.string nm)) := hbo2.setCell (p := ⟨wo.heap.size, 1, none⟩) (Nat.le_refl _) _
            simp only [List.set_cons_succ, List.set_cons_zero] at hbx3
            obtain ⟨W3, hW3⟩ : ∃ W3, w2.setCell ⟨wo.heap.size, 1, none⟩ (.string nm) = W3 := ⟨_, rfl⟩
            rw [hW3] at hbx3 hbo3 ⊢
            clear hW3 hbx2 hbo2 d1 f1
            go_loopw [6, 7, 8, 9] (fun u6 _ _ _ wr => ∃ (k : Nat) (acc : List Att) (va : Value), k ≤ ats.length ∧ u6 = .int .i64 (k : Int) ∧ Box wr wo.heap.size 41 [.int .i64 1, .string nm, va, .string ⟨#[]⟩, .slice none 0 0] ∧ wr.ownsRow (wo.heap.size + 1) 43 2 va acc.length (cellsA acc) ∧ Hid (acc = M3.goodA (ats.take k)) ∧ Below wo.heap.size wo wr) (fun u6 _ _ _ _ => ats.length - (intOf u6).toNat)
            case atStart => exact ⟨0, [], _, by omega, rfl, hbx3, World.ownsRow_nil _ _ _ _, rfl, hbo3⟩
            case round =>
              obtain ⟨k, acc, va, hk, rfl, hbx, hown, hacc, hbo⟩ := hrel
              have hz3 := hbo.size
              have hgl := hbx.lt
              have r2 := (hbo.cell (p := ⟨b, off + i * 5 + 2, none⟩) hblo).trans c2
              clear hbx3 hbo3
              by_cases hkl : k < ats.length
              · obtain ⟨ab, aoff, rfl, hSab, p0, p1⟩ := (hat0.below (fun c hc => by have := hS c hc; omega) hbo).atA k hkl
                have habl := hS ab hSab
                obtain ⟨hsa, hsv⟩ := has.out _ (List.getElem_mem hkl)
                have htk : M3.goodA (ats.take (k + 1)) = M3.addA (M3.goodA (ats.take k)) ats[k] := by rw [List.take_succ_eq_append_getElem hkl, M3.goodA_snoc]
                have hacl : acc.length ≤ k := by rw [hacc.out]; have := M3.goodA_len (ats.take k); have := List.length_take_le k ats; omega
                have hadd : M3.addA acc ats[k] = if (M3.valueOf (M3.attrN ats[k].name) acc).isSome then acc else acc ++ [⟨M3.attrN ats[k].name, M3.rightN ats[k].value⟩] := rfl
                rw [← hacc.out, hadd] at htk
                clear hadd
                have hAt := Lib.hid (fun W => ref03Attribute ats[k].name W (by omega))
                generalize ats[k].name = an at *
                generalize ats[k].value = av at *
                have hK0 : (0 : Int) ≤ (k : Int) := by omega
                have hK1 : (k : Int) < (ats.length : Int) := by omega
                replace htk := Lib.hid htk
                go_upto_region 15 with (fail)
                refine wp_region_known (n := 24) ([some (.slice (some ⟨b, off, none⟩) l.length cap), some (.int .i64 (i : Int)), some (.pointer (some ⟨b, off + i * 5, none⟩)), some (.pointer (some ⟨b, off + i * 5 + 2, none⟩)), some (.slice (some ⟨ab, aoff, none⟩) ats.length e1), some (.int .i64 (k : Int)), some (.pointer (some ⟨ab, aoff + k * 2, none⟩)), some (.pointer (some ⟨ab, aoff + k * 2, none⟩)), some (.string an), some (.string (M3.attrN an)), some (.slice (some ⟨b, off, none⟩) l.length cap), some (.int .i64 (i : Int)), some (.pointer (some ⟨b, off + i * 5, none⟩)), some (.pointer (some ⟨b, off + i * 5 + 2, none⟩)), some (.slice (some ⟨ab, aoff, none⟩) ats.length e1), some (.int .i64 (k : Int)), some (.pointer (some ⟨ab, aoff + k * 2, none⟩)), some (.pointer (some ⟨ab, aoff + k * 2 + 1, none⟩)), some (.string av), none, some (.string ⟨(M1.right av.data.toList).toArray⟩), some (.agg #[.string (M3.attrN an), .string ⟨(M1.right av.data.toList).toArray⟩]), none, none] : List (Option Value)) (fun t => ⟨#[Value.slice (some { block := b, off := off }) l.length cap, undef, Value.slice none 0 0, u3, Value.int IntKind.i64 ↑i, Value.pointer (some { block := wo.heap.size, off := 0 }), Value.int IntKind.i64 ↑k, t 22, u8, u9, u10, u11, u12, u13, u14, u15, u16, u17, u18, u19, u20, u21, u22, u23, u24, u25, u26, u27, u28, u29, u30, Value.pointer (some { block := wo.heap.size, off := 0 }), Value.int IntKind.i64 1, Value.bool false, u34, u35, u36, u37, u38, u39, u40, u41, u42, u43, u44, u45, Value.slice (some { block := b, off := off }) l.length cap, Value.int IntKind.i64 ↑i, Value.pointer (some { block := b, off := off + i * 5 }), Value.pointer (some { block := b, off := off + i * 5 + 1 }), Value.string n, Value.string nm, Value.pointer (some { block := wo.heap.size, off := 1 }), Value.int IntKind.i64 ↑k, Value.slice (some { block := b, off := off }) l.length cap, Value.int IntKind.i64 ↑i, Value.pointer (some { block := b, off := off + i * 5 }), Value.pointer (some { block := b, off := off + i * 5 + 2 }), Value.slice (some { block := ab, off := aoff }) ats.length e1, Value.int IntKind.i64 ↑ats.length, Value.bool true, u61, u62, t 0, t 1, t 2, t 3, t 4, t 5, t 6, t 7, t 8, t 9, t 10, t 11, t 12, t 13, t 14, t 15, t 16, t 17, t 18, t 19, t 20, t 21, u85, u86, u87, u88, u89, u90, u91, u92, u93, u94, u95, u96, u97, u98, u99, u100, u101, u102, u103, u104, u105, u106, u107, u108, u109, u110, undef, undef], []⟩) (fun f t W => AttI wr av (M3.attrN an) ⟨(M1.right av.data.toList).toArray⟩ f t W) (fun j => match j with | 0 => u63 | 1 => u64 | 2 => u65 | 3 => u66 | 4 => u67 | 5 => u68 | 6 => u69 | 7 => u70 | 8 => u71 | 9 => u72 | 10 => u73 | 11 => u74 | 12 => u75 | 13 => u76 | 14 => u77 | 15 => u78 | 16 => u79 | 17 => u80 | 18 => u81 | 19 => u82 | 20 => u83 | 21 => u84 | 22 => u7 | _ => undef) (by kernel_rfl) (by rfl) (by rfl) (by kernel_rfl) rfl ?i0 ?step ?fin
                case i0 =>
                  exact AttI.start _ _ _ _ _ (by simp) (by simp) (by simp)
                case step =>
                  intro i hi f t W hfi hwt hk hI
                  have s0 := cell_of_below hI.1 r2 (by omega)
                  have s1 := cell_of_below hI.1 p0 (by omega)
                  have s2 := cell_of_below hI.1 p1 (by omega)
                  obtain rfl | rfl | rfl | rfl | rfl | rfl | rfl | rfl | rfl | rfl | rfl | rfl | rfl | rfl | rfl | rfl | rfl | rfl | rfl | rfl | rfl | rfl | rfl | rfl : i = 0 ∨ i = 1 ∨ i = 2 ∨ i = 3 ∨ i = 4 ∨ i = 5 ∨ i = 6 ∨ i = 7 ∨ i = 8 ∨ i = 9 ∨ i = 10 ∨ i = 11 ∨ i = 12 ∨ i = 13 ∨ i = 14 ∨ i = 15 ∨ i = 16 ∨ i = 17 ∨ i = 18 ∨ i = 19 ∨ i = 20 ∨ i = 21 ∨ i = 22 ∨ i = 23 := by omega
                  · -- operation 0
                    replace hI := Lib.hid hI
                    replace hk := Lib.hid hk
                    clear hwt
                    refine wpOp_step rfl (fun K hK => ?_)
                    go_simp
                    exact hK _ _ ⟨_, by simp [updT], hk.out.at_ rfl, hI.out⟩
                  · -- operation 1
                    replace hI := Lib.hid hI
                    replace hk := Lib.hid hk
                    clear hwt
                    refine wpOp_step rfl (fun K hK => ?_)
                    go_simp
                    exact hK _ _ ⟨_, by simp [updT], hk.out.at_ rfl, hI.out⟩
                  · -- operation 2
                    have e0 : t 0 = .slice (some ⟨b, off, none⟩) l.length cap := hk 0 _ (hwt 0 (by kernel_rfl)) rfl
                    have e1 : t 1 = .int .i64 (i : Int) := hk 1 _ (hwt 1 (by kernel_rfl)) rfl
                    replace hI := Lib.hid hI
                    replace hk := Lib.hid hk
                    clear hwt
                    refine wpOp_step rfl (fun K hK => ?_)
                    go_simp
                    exact hK _ _ ⟨_, by simp [updT, e0, e1], hk.out.at_ rfl, hI.out⟩
                  · -- operation 3
                    have e2 : t 2 = .pointer (some ⟨b, off + i * 5, none⟩) := hk 2 _ (hwt 2 (by kernel_rfl)) rfl
                    replace hI := Lib.hid hI
                    replace hk := Lib.hid hk
                    clear hwt
                    refine wpOp_step rfl (fun K hK => ?_)
                    go_simp
                    exact hK _ _ ⟨_, by simp [updT, e2], hk.out.at_ rfl, hI.out⟩
                  · -- operation 4
                    have e3 : t 3 = .pointer (some ⟨b, off + i * 5 + 2, none⟩) := hk 3 _ (hwt 3 (by kernel_rfl)) rfl
                    replace hI := Lib.hid hI
                    replace hk := Lib.hid hk
                    clear hwt
                    refine wpOp_step rfl (fun K hK => ?_)
                    go_simp
                    exact hK _ _ ⟨_, by simp [updT, e3], hk.out.at_ rfl, hI.out⟩
                  · -- operation 5
                    replace hI := Lib.hid hI
                    replace hk := Lib.hid hk
                    clear hwt
                    refine wpOp_step rfl (fun K hK => ?_)
                    go_simp
                    exact hK _ _ ⟨_, by simp [updT], hk.out.at_ rfl, hI.out⟩
                  · -- operation 6
                    have e4 : t 4 = .slice (some ⟨ab, aoff, none⟩) ats.length e1 := hk 4 _ (hwt 4 (by kernel_rfl)) rfl
                    have e5 : t 5 = .int .i64 (k : Int) := hk 5 _ (hwt 5 (by kernel_rfl)) rfl
                    replace hI := Lib.hid hI
                    replace hk := Lib.hid hk
                    clear hwt
                    refine wpOp_step rfl (fun K hK => ?_)
                    go_simp
                    exact hK _ _ ⟨_, by simp [updT, e4, e5], hk.out.at_ rfl, hI.out⟩
                  · -- operation 7
                    have e6 : t 6 = .pointer (some ⟨ab, aoff + k * 2, none⟩) := hk 6 _ (hwt 6 (by kernel_rfl)) rfl
                    replace hI := Lib.hid hI
                    replace hk := Lib.hid hk
                    clear hwt
                    refine wpOp_step rfl (fun K hK => ?_)
                    go_simp
                    exact hK _ _ ⟨_, by simp [updT, e6], hk.out.at_ rfl, hI.out⟩
                  · -- operation 8
                    have e7 : t 7 = .pointer (some ⟨ab, aoff + k * 2, none⟩) := hk 7 _ (hwt 7 (by kernel_rfl)) rfl
                    replace hI := Lib.hid hI
                    replace hk := Lib.hid hk
                    clear hwt
                    refine wpOp_step rfl (fun K hK => ?_)
                    go_simp
                    exact hK _ _ ⟨_, by simp [updT, e7], hk.out.at_ rfl, hI.out⟩
                  · -- operation 9
                    have e8 : t 8 = .string an := hk 8 _ (hwt 8 (by kernel_rfl)) rfl
                    replace hk := Lib.hid hk
                    replace hI := Lib.hid hI
                    clear hwt
                    refine wpOp_step rfl (fun K hK => ?_)
                    go_simp
                    refine (hAt.out _).mono ?_
                    rintro e w5 ⟨rfl, hb5⟩
                    exact hK _ _ ⟨_, by simp [updT, e8], hk.out.at_ rfl, hI.out.next hb5⟩
                  · -- operation 10
                    replace hI := Lib.hid hI
                    replace hk := Lib.hid hk
                    clear hwt
                    refine wpOp_step rfl (fun K hK => ?_)
                    go_simp
                    exact hK _ _ ⟨_, by simp [updT], hk.out.at_ rfl, hI.out⟩
                  · -- operation 11
                    replace hI := Lib.hid hI
                    replace hk := Lib.hid hk
                    clear hwt
                    refine wpOp_step rfl (fun K hK => ?_)
                    go_simp
                    exact hK _ _ ⟨_, by simp [updT], hk.out.at_ rfl, hI.out⟩
                  · -- operation 12
                    have e10 : t 10 = .slice (some ⟨b, off, none⟩) l.length cap := hk 10 _ (hwt 10 (by kernel_rfl)) rfl
                    have e11 : t 11 = .int .i64 (i : Int) := hk 11 _ (hwt 11 (by kernel_rfl)) rfl
                    replace hI := Lib.hid hI
                    replace hk := Lib.hid hk
                    clear hwt
                    refine wpOp_step rfl (fun K hK => ?_)
                    go_simp
                    exact hK _ _ ⟨_, by simp [updT, e10, e11], hk.out.at_ rfl, hI.out⟩
                  · -- operation 13
                    have e12 : t 12 = .pointer (some ⟨b, off + i * 5, none⟩) := hk 12 _ (hwt 12 (by kernel_rfl)) rfl
                    replace hI := Lib.hid hI
                    replace hk := Lib.hid hk
                    clear hwt
                    refine wpOp_step rfl (fun K hK => ?_)
                    go_simp
                    exact hK _ _ ⟨_, by simp [updT, e12], hk.out.at_ rfl, hI.out⟩
                  · -- operation 14
                    have e13 : t 13 = .pointer (some ⟨b, off + i * 5 + 2, none⟩) := hk 13 _ (hwt 13 (by kernel_rfl)) rfl
                    replace hI := Lib.hid hI
                    replace hk := Lib.hid hk
                    clear hwt
                    refine wpOp_step rfl (fun K hK => ?_)
                    go_simp
                    exact hK _ _ ⟨_, by simp [updT, e13], hk.out.at_ rfl, hI.out⟩
                  · -- operation 15
                    replace hI := Lib.hid hI
                    replace hk := Lib.hid hk
                    clear hwt
                    refine wpOp_step rfl (fun K hK => ?_)
                    go_simp
                    exact hK _ _ ⟨_, by simp [updT], hk.out.at_ rfl, hI.out⟩
                  · -- operation 16
                    have e14 : t 14 = .slice (some ⟨ab, aoff, none⟩) ats.length e1 := hk 14 _ (hwt 14 (by kernel_rfl)) rfl
                    have e15 : t 15 = .int .i64 (k : Int) := hk 15 _ (hwt 15 (by kernel_rfl)) rfl
                    replace hI := Lib.hid hI
                    replace hk := Lib.hid hk
                    clear hwt
                    refine wpOp_step rfl (fun K hK => ?_)
                    go_simp
                    exact hK _ _ ⟨_, by simp [updT, e14, e15], hk.out.at_ rfl, hI.out⟩
                  · -- operation 17
                    have e16 : t 16 = .pointer (some ⟨ab, aoff + k * 2, none⟩) := hk 16 _ (hwt 16 (by kernel_rfl)) rfl
                    replace hI := Lib.hid hI
                    replace hk := Lib.hid hk
                    clear hwt
                    refine wpOp_step rfl (fun K hK => ?_)
                    go_simp
                    exact hK _ _ ⟨_, by simp [updT, e16], hk.out.at_ rfl, hI.out⟩
                  · -- operation 18
                    have e17 : t 17 = .pointer (some ⟨ab, aoff + k * 2 + 1, none⟩) := hk 17 _ (hwt 17 (by kernel_rfl)) rfl
                    replace hI := Lib.hid hI
                    replace hk := Lib.hid hk
                    clear hwt
                    refine wpOp_step rfl (fun K hK => ?_)
                    go_simp
                    exact hK _ _ ⟨_, by simp [updT, e17], hk.out.at_ rfl, hI.out⟩
                  · -- operation 19
                    have e18 : t 18 = .string av := hk 18 _ (hwt 18 (by kernel_rfl)) rfl
                    replace hk := Lib.hid hk
                    replace hI := Lib.hid hI
                    clear hwt
                    obtain ⟨x1, w1, hc1, y1, b1⟩ := conv_bytes W av (by omega)
                    refine wpOp_step rfl (fun K hK => ?_)
                    go_simp
                    exact hK _ _ ⟨_, by simp [updT, e18], hk.out.free rfl, (hI.out.next b1).conv y1⟩
                  · -- operation 20
                    have hf23 : f 23 = false := by
                      cases h2 : f 23
                      · rfl
                      · rw [(hI.2.2.1 h2).2] at hfi; cases hfi
                    have hsl := hI.2.1 (hwt 19 (by kernel_rfl)) hf23
                    replace hf23 := Lib.hid hf23
                    have hR := Lib.hid (ref01Right (t 19) av.data.toList W hsl (by show av.size ≤ _; omega))
                    replace hk := Lib.hid hk
                    replace hI := Lib.hid hI
                    clear hwt
                    refine wpOp_step rfl (fun K hK => ?_)
                    go_simp
                    refine hR.out.mono ?_
                    rintro e w5 ⟨rfl, hb5⟩
                    exact hK _ _ ⟨_, by simp [updT], hk.out.at_ rfl, (hI.out.next hb5).right⟩
                  · -- operation 21
                    have e9 : t 9 = .string (M3.attrN an) := hk 9 _ (hwt 9 (by kernel_rfl)) rfl
                    have e20 : t 20 = .string ⟨(M1.right av.data.toList).toArray⟩ := hk 20 _ (hwt 20 (by kernel_rfl)) rfl
                    replace hI := Lib.hid hI
                    replace hk := Lib.hid hk
                    clear hwt
                    refine wpOp_step rfl (fun K hK => ?_)
                    go_simp
                    exact hK _ _ ⟨_, by simp [updT, e9, e20], hk.out.at_ rfl, hI.out⟩
                  · -- operation 22
                    replace hk := Lib.hid hk
                    replace hI := Lib.hid hI
                    clear hwt
                    refine wpOp_step rfl (fun K hK => ?_)
                    go_simp
                    exact hK _ _ ⟨_, by simp [updT], hk.out.free rfl, hI.out.made hfi⟩
                  · -- operation 23
                    have e21 : t 21 = .agg #[.string (M3.attrN an), .string ⟨(M1.right av.data.toList).toArray⟩] := hk 21 _ (hwt 21 (by kernel_rfl)) rfl
                    obtain ⟨ga, e22, hga, hbx⟩ := hI.2.2.2 (hwt 22 (by kernel_rfl))
                    rw [hfi] at hbx
                    change Box W ga _ [.string ⟨#[]⟩, .string ⟨#[]⟩] at hbx
                    have y0 := hbx.cell (i := 0) rfl
                    have y1 := hbx.cell (i := 1) rfl
                    have z0 := hbx.free 0
                    have z1 := hbx.free 1
                    have f22 := Lib.hid (hwt 22 (by kernel_rfl))
                    have f20 := Lib.hid (hwt 20 (by kernel_rfl))
                    replace hk := Lib.hid hk
                    replace hI := Lib.hid hI
                    clear hwt
                    refine wpOp_step rfl (fun K hK => ?_)
                    go_simp
                    exact hK _ _ ⟨undef, by simp [updT, e21, e22], hk.out.free rfl, hI.out.put f22.out f20.out e22 hga hbx⟩
                case fin =>
                  intro f t W hall hk hI
                  obtain ⟨ga, e22, hga, hba⟩ := hI.2.2.2 (hall 22 (by omega))
                  rw [hall 23 (by omega)] at hba
                  change Box W ga _ [.string (M3.attrN an), .string ⟨(M1.right av.data.toList).toArray⟩] at hba
                  have hB := hI.1
                  clear hk hI hall hAt
                  dsimp only
                  rw [e22]
                  have hrr : (⟨(M1.right av.data.toList).toArray⟩ : ByteArray) = M3.rightN av := rfl
                  rw [hrr] at hba
                  clear hrr p0 p1 r2 e22
                  generalize M3.attrN an = an2 at *
                  generalize M3.rightN av = av2 at *
                  have hbn := hbx.below hB hgl
                  have hownW := own_below3 hown hB
                  obtain ⟨a6, e6, rfl⟩ := own_slice hown
                  have n0 := hbn.cell (i := 0) rfl
                  have n1 := hbn.cell (i := 1) rfl
                  have n2 := hbn.cell (i := 2) rfl
                  have n3 := hbn.cell (i := 3) rfl
                  have n4 := hbn.cell (i := 4) rfl
                  have m0 := hba.cell (i := 0) rfl
                  have m1 := hba.cell (i := 1) rfl
                  have hrowW : Row (fun b => b < W.heap.size) W 2 (.slice a6 acc.length e6) acc.length (cellsA acc) := Row.own hownW (fun g hg => (hownW.lt g hg).2)
                  have hVl := Lib.hid (ref03Value (fun b => b < W.heap.size) (.mk 1 nm acc ⟨#[]⟩ []) (.slice a6 acc.length e6) (.slice none 0 0) an2 W (fun _ h => h) hrowW ⟨_, _, _, rfl⟩)
                  have hboW : Below wo.heap.size wo W := hbo.trans (hB.mono hz3)
                  replace hownW := Lib.hid hownW
                  replace hown := Lib.hid hown
                  clear hbx hrowW
                  obtain ⟨o, ho⟩ : ∃ o, M3.valueOf an2 acc = o := ⟨_, rfl⟩
                  change Hid (Calls Tryz.prog 49 #[Value.agg #[.int .i64 1, .string nm, .slice a6 acc.length e6, .string ⟨#[]⟩, .slice none 0 0], .string an2] W fun e w' => e = .returned (valAns (M3.valueOf an2 acc)) ∧ Below W.heap.size W w') at hVl
                  rw [ho] at hVl htk
                  clear ho
                  go_wp2_with fail
                  cases o with
                  | some sv =>
                    replace htk : Hid (M3.goodA (ats.take (k + 1)) = acc) := htk
                    change Hid (Calls Tryz.prog 49 #[Value.agg #[.int .i64 1, .string nm, .slice a6 acc.length e6, .string ⟨#[]⟩, .slice none 0 0], .string an2] W fun e w' => e = .returned (.tuple #[.string sv, .bool true]) ∧ Below W.heap.size W w') at hVl
                    refine hVl.out.mono ?_
                    rintro e w6 ⟨rfl, hb6⟩
                    have hbo6 : Below wo.heap.size wo w6 := hboW.trans (hb6.mono (by have := hB.size; omega))
                    have hbn6 := hbn.below hb6 hbn.lt
                    have hown6 := own_below3 hownW.out hb6
                    clear hVl hbn hba n0 n1 n2 n3 n4 m0 m1
                    go_wp2_with fail
                    go_roundw
                    case rel => exact ⟨k + 1, acc, _, by omega, by go_num, hbn6, hown6, by show _ = _; rw [htk.out], hbo6⟩
                    case measure => exact meas_nat hkl
                  | none =>
                    replace htk : Hid (M3.goodA (ats.take (k + 1)) = acc ++ [⟨an2, av2⟩]) := htk
                    change Hid (Calls Tryz.prog 49 #[Value.agg #[.int .i64 1, .string nm, .slice a6 acc.length e6, .string ⟨#[]⟩, .slice none 0 0], .string an2] W fun e w' => e = .returned (.tuple #[.string ⟨#[]⟩, .bool false]) ∧ Below W.heap.size W w') at hVl
                    refine hVl.out.mono ?_
                    rintro e w6 ⟨rfl, hb6⟩
                    have hbo6 : Below wo.heap.size wo w6 := hboW.trans (hb6.mono (by have := hB.size; omega))
                    have hbn6 := hbn.below hb6 hbn.lt
                    have hba6 := hba.below hb6 hba.lt
                    have hown6 := own_below3 hownW.out hb6
                    have hgl6 := hbn6.lt
                    clear hVl hbn hba n0 n1 n2 n3 n4 m0 m1
                    have n2 := hbn6.cell (i := 2) rfl
                    have m0 := hba6.cell (i := 0) rfl
                    have m1 := hba6.cell (i := 1) rfl
                    have hbo6z : wo.heap.size + 1 ≤ w6.heap.size := by omega
                    go_wp2_with (at_builtin; refine wpList_appK _ [.string an2, .string av2] 2 rfl _ _ 39 43 rfl (wo.heap.size + 1) Tryz.underlying39 infoA rfl (by omega) _ acc.length (cellsA acc) rfl hown6 _ rfl rfl rfl (by simp [Value.oneCell']) (by omega) (by omega) hbo6z ?_; intro g cp w7 hown7 hgrow7 hat7; have hbn7 := hbn6.keep (hgrow7.block _ hgl6 (fun e => by have := (hown6.lt _ e.symm).1; omega)); have k2 := hbn7.cell (i := 2) rfl; have kf2 := hbn7.free 2)
                    have hbo7 : Below wo.heap.size wo w7 := hbo6.grown hgrow7 (by omega) (fun k hk => by have := (hown6.lt k hk).1; omega)
                    have hbn8 := hbn7.set 2 (.slice (some ⟨g, 0, none⟩) (acc.length + 1) cp)
                    simp only [List.set_cons_succ, List.set_cons_zero] at hbn8
                    have hbo8 : Below wo.heap.size wo (w7.setCell ⟨wo.heap.size, 2, none⟩ (.slice (some ⟨g, 0, none⟩) (acc.length + 1) cp)) := hbo7.setCell (p := ⟨wo.heap.size, 2, none⟩) (Nat.le_refl _) _
                    have hown8 : (w7.setCell ⟨wo.heap.size, 2, none⟩ (.slice (some ⟨g, 0, none⟩) (acc.length + 1) cp)).ownsRow (wo.heap.size + 1) 43 2 (.slice (some ⟨g, 0, none⟩) (acc.length + 1) cp) (acc ++ ([⟨an2, av2⟩] : List Att)).length (cellsA (acc ++ ([⟨an2, av2⟩] : List Att))) := by
                      rw [cellsA_append, List.length_append]
                      exact own_keep hown7 (fun g' hg' => Below.heap_setCell _ _ _ _ (by have := (hown7.lt g' hg').1; simp; omega))
                    clear hown7 hgrow7 hat7 k2 kf2
                    go_roundw
                    case rel => exact ⟨k + 1, acc ++ [⟨an2, av2⟩], _, by omega, by go_num, hbn8, hown8, by show _ = _; rw [htk.out], hbo8⟩
                    case measure => exact meas_nat hkl
              · obtain rfl : k = ats.length := by omega
                rw [List.take_length] at hacc
                have hgg : M3.good1 (.mk kd n ats t ks) = .mk 1 nm acc ⟨#[]⟩ (M3.good ks) := by rw [hacc.out]; exact hg1
                rw [hgg] at hgt
                have hacl : acc.length ≤ ats.length := by rw [hacc.out]; exact M3.goodA_len ats
                have r4 := (hbo.cell (p := ⟨b, off + i * 5 + 4, none⟩) hblo).trans c4
                obtain ⟨a6, e6, rfl⟩ := own_slice hown
                have hkw : M3.weight ks < wt := by have h0 : M3.weight ks < M3.weight l := hwk; omega
                have hkd := Lib.hid (ih.out S (.slice a2 ks.length e2) ks wr hkw (by omega) hs2 (fun c hc => by have := hS c hc; omega) (hkd0.out.below (fun c hc => by have := hS c hc; omega) hbo))
                clear hg1 hgg hacc c0 c1 c2 c3 c4
                go_wp2_with fail
                refine hkd.out.mono ?_
                rintro e w6 ⟨vk6, rfl, ⟨zk, Fk, hownk, hock, hspk⟩, hb6⟩
                obtain ⟨a7, e7, rfl⟩ := own_slice hownk
                have hbo6 : Below wo.heap.size wo w6 := hbo.trans (hb6.mono hz3)
                have hbn6 := hbx.below hb6 hgl
                have hgl6 := hbn6.lt
                have n0 := hbn6.cell (i := 0) rfl
                have n1 := hbn6.cell (i := 1) rfl
                have n2 := hbn6.cell (i := 2) rfl
                have n3 := hbn6.cell (i := 3) rfl
                have n4 := hbn6.cell (i := 4) rfl
                have nf4 := hbn6.free 4
                have hown6 := own_below3 hown hb6
                have hbo7 : Below wo.heap.size wo (w6.setCell ⟨wo.heap.size, 4, none⟩ (.slice a7 (M3.good ks).length e7)) := hbo6.setCell (p := ⟨wo.heap.size, 4, none⟩) (Nat.le_refl _) _
                have hsz7 : (w6.setCell ⟨wo.heap.size, 4, none⟩ (.slice a7 (M3.good ks).length e7)).heap.size = w6.heap.size := by simp [World.setCell]
                have hfar7 : ∀ c, c ≠ wo.heap.size → (w6.setCell ⟨wo.heap.size, 4, none⟩ (.slice a7 (M3.good ks).length e7)).heap[c]? = w6.heap[c]? := fun c hc => Below.heap_setCell _ _ _ _ (by simpa using hc)
                have hownA7 := own_below3 hownA hbo7
                have hsz8 : w.heap.size ≤ (w6.setCell ⟨wo.heap.size, 4, none⟩ (.slice a7 (M3.good ks).length e7)).heap.size := by omega
                have hown7 := own_keep hown6 (w' := w6.setCell ⟨wo.heap.size, 4, none⟩ (.slice a7 (M3.good ks).length e7)) (fun g hg => hfar7 g (by have := (hown6.lt g hg).1; omega))
                have hownk7 := own_keep hownk (w' := w6.setCell ⟨wo.heap.size, 4, none⟩ (.slice a7 (M3.good ks).length e7)) (fun g hg => hfar7 g (by have := (hownk.lt g hg).1; omega))
                have hock7 := OwnC.keep (w' := w6.setCell ⟨wo.heap.size, 4, none⟩ (.slice a7 (M3.good ks).length e7)) _ _ _ (fun c hc => hfar7 c (by have := (hspk.2 c (by simp [hc])).1; omega)) hock
                have hspa := Span.own hown
                replace hsz7 := Lib.hid hsz7
                replace hown7 := Lib.hid hown7
                replace hownk7 := Lib.hid hownk7
                replace hock7 := Lib.hid hock7
                replace hfar7 := Lib.hid hfar7
                replace hown := Lib.hid hown
                replace hown6 := Lib.hid hown6
                replace hownk := Lib.hid hownk
                clear hkd hock
                go_wp2_with (at_builtin; refine wpList_appK _ [.int .i64 1, .string nm, .slice a6 acc.length e6, .string ⟨#[]⟩, .slice a7 (M3.good ks).length e7] 5 rfl _ _ 25 41 rfl w.heap.size Tryz.underlying25 infoN rfl (by omega) u3 A.length zs rfl hownA7 w6.heap.size hsz7.out (by rfl) rfl (five_one _ _ _ _ _ _ _ _ _) (by omega) (by omega) hsz8 ?_; intro g cp w5 hown5 hgrow5 hat5)
                have hb5 : Below w.heap.size w w5 := below_own (hb.trans (hbo7.mono hz)) hownA7 hgrow5 hsz8 (Nat.le_refl _)
                have hfr5 : Fresh w5 w.heap.size (.slice (some ⟨g, 0, none⟩) (A.length + 1) cp) (A ++ [.mk 1 nm acc ⟨#[]⟩ (M3.good ks)]) := by
                  refine Fresh.snoc (W := w6.setCell ⟨wo.heap.size, 4, none⟩ (.slice a7 (M3.good ks).length e7)) (mid := wo.heap.size) (F := F) (zs2 := zk) (F2 := Fk) rfl hown5 hgrow5 hat5 (OwnC.keep _ _ _ (fun c h => hbo7.block c (hspA.out.2 c (by simp [h])).2) hocA.out) hspA.out (own_base hown7.out (fun _ _ => Nat.zero_le _)) (own_base hownk7.out (fun _ _ => Nat.zero_le _)) hock7.out ?_ hz (by have := hsz7.out; omega)
                  have h1 := Span.append hspa hspk (by omega) hb6.size
                  exact h1.mono (by omega) (by have := hsz7.out; omega)
                clear hown5 hgrow5 hat5
                go_roundw
                case rel => exact ⟨i + 1, by omega, by go_num, by rw [hgt.out]; exact hfr5, hb5⟩
                case measure => exact meas_nat hlt
      · rw [if_neg hk1] at hg1
        have hkk : M3.kindN kd = kd := by
          unfold M3.kindN at hk1 ⊢
          split at hk1
          · exact absurd rfl hk1
          · rename_i h; rw [if_neg h]
        rw [hkk] at hg1 hk1
        have hk23 : kd = 2 ∨ kd = 3 := by
          have := M3.kindN_in kd
          rw [hkk] at this
          omega
        obtain ⟨x1, w1, hc1, s1, b1⟩ := conv_bytes (wo.alloc (.cells #[.int .i64 kd, .string ⟨#[]⟩, .slice none 0 0, .string ⟨#[]⟩, .slice none 0 0] 41)) t (by omega)
        have hR := Lib.hid (ref01Right x1 _ w1 s1 (by show t.size ≤ _; omega))
        have hkd1 : (kd != 1) = true := by simp [bne]; omega
        have hkd2 : ¬ (kd < 1) := by omega
        have hkd3 : ¬ (3 < kd) := by omega
        have hbx0 := Box.new wo 41 [.int .i64 kd, .string ⟨#[]⟩, .slice none 0 0, .string ⟨#[]⟩, .slice none 0 0]
        have hbo0 : Below wo.heap.size wo (wo.alloc (.cells #[.int .i64 kd, .string ⟨#[]⟩, .slice none 0 0, .string ⟨#[]⟩, .slice none 0 0] 41)) := (Below.refl _ _).alloc (Nat.le_refl _) _
        have hso : (wo.alloc (.cells #[.int .i64 kd, .string ⟨#[]⟩, .slice none 0 0, .string ⟨#[]⟩, .slice none 0 0] 41)).heap.size = wo.heap.size + 1 := by simp
        have hz1 := b1.size
        rw [hso] at hz1
        have hbo1 : Below wo.heap.size wo w1 := hbo0.trans (b1.mono (by omega))
        have hbx1 := (show Box (wo.alloc (.cells #[.int .i64 kd, .string ⟨#[]⟩, .slice none 0 0, .string ⟨#[]⟩, .slice none 0 0] 41)) _ _ _ from hbx0).below b1 (by omega)
        have hgx : M3.good1 (.mk kd n ats t ks) = .mk kd ⟨#[]⟩ [] ⟨(M1.right t.data.toList).toArray⟩ [] := hg1
        have hrl := M1.right_len t.data.toList
        have htl : t.data.toList.length ≤ 30 := hts
        rw [hgx] at hgt
        clear hg1 hgx hbo0 hbx0 b1
        replace hso := Lib.hid hso
        generalize M1.right t.data.toList = rt at *
        go_wp2_with fail
        refine hR.out.mono ?_
        rintro e w2 ⟨rfl, hb2⟩
        have hz2 := hb2.size
        have hbo2 : Below wo.heap.size wo w2 := hbo1.trans (hb2.mono (by omega))
        have hbx2 := hbx1.below hb2 (by omega)
        have d0 := hbx2.cell (i := 0) rfl
        have d1 := hbx2.cell (i := 1) rfl
        have d2 := hbx2.cell (i := 2) rfl
        have d3 := hbx2.cell (i := 3) rfl
        have d4 := hbx2.cell (i := 4) rfl
        have f3 := hbx2.free 3
        have hbo3 : Below wo.heap.size wo (w2.setCell ⟨wo.heap.size, 3, none⟩ (.string ⟨rt.toArray⟩)) := hbo2.setCell (p := ⟨wo.heap.size, 3, none⟩) (Nat.le_refl _) _
        have hsz3 : (w2.setCell ⟨wo.heap.size, 3, none⟩ (.string ⟨rt.toArray⟩)).heap.size = w2.heap.size := by simp [World.setCell]
        have hsz4 : w.heap.size ≤ (w2.setCell ⟨wo.heap.size, 3, none⟩ (.string ⟨rt.toArray⟩)).heap.size := by omega
        have hown3 := own_below3 hownA hbo3
        replace hsz3 := Lib.hid hsz3
        clear hR hbx1 s1 c0 c1 c2 c3 c4
        go_wp2_with (at_builtin; refine wpList_appK _ [.int .i64 kd, .string ⟨#[]⟩, .slice none 0 0, .string ⟨rt.toArray⟩, .slice none 0 0] 5 rfl _ _ 25 41 rfl w.heap.size Tryz.underlying25 infoN rfl (by omega) u3 A.length zs rfl hown3 w2.heap.size hsz3.out (by rfl) rfl (five_one _ _ _ _ _ _ _ _ _) (by omega) (by omega) hsz4 ?_; intro g cp w5 hown5 hgrow5 hat5)
        have hb5 : Below w.heap.size w w5 := below_own (hb.trans (hbo3.mono hz)) hown3 hgrow5 hsz4 (Nat.le_refl _)
        have hfr5 : Fresh w5 w.heap.size (.slice (some ⟨g, 0, none⟩) (A.length + 1) cp) (A ++ [.mk kd ⟨#[]⟩ [] ⟨rt.toArray⟩ []]) := by
          refine Fresh.snoc (W := w2.setCell ⟨wo.heap.size, 3, none⟩ (.string ⟨rt.toArray⟩)) (mid := wo.heap.size) (F := F) (zs2 := []) (F2 := []) rfl hown5 hgrow5 hat5 (OwnC.keep _ _ _ (fun b h => hbo3.block b (hspA.out.2 b (by simp [h])).2) hocA.out) hspA.out (World.ownsRow_nil _ _ _ _) (World.ownsRow_nil _ _ _ _) (OwnC.nil _) (Span.nil _ _) hz (by have := hsz3.out; omega)
        clear hown5 hgrow5 hat5
        go_roundw
        case rel => exact ⟨i + 1, by omega, by go_num, by rw [hgt.out]; exact hfr5, hb5⟩
        case measure => exact meas_nat hlt
    · obtain rfl : i = l.length := by omega
      rw [List.take_length] at hf
      have hlg := good_len l
      have htx := good_txt l hsm.out
      have hM := Lib.hid (ref03MergeF w.heap.size u3 _ wr hz hf (by omega) (by omega))
      obtain ⟨a3, c3, hu3⟩ : ∃ a c, u3 = .slice a (M3.goodN l).length c := by obtain ⟨_, _, h, _⟩ := hf; exact own_slice h
      subst hu3
      clear hf hlg htx
      go_wp2_with fail
      refine hM.out.mono ?_
      rintro e w1 ⟨v1, rfl, hfr1, hb1⟩
      have hbb : Below w.heap.size w w1 := hb.trans (hb1.mono hz)
      clear hM
      replace hfr1 := Lib.hid hfr1
      go_wp2_with fail
      go_ret
      exact ⟨v1, rfl, hfr1.out, hbb⟩
end Go.Proofs.YteefodibpjgicaaGreat

namespace Go.Proofs.YteefodibpjgicaaGreat
open Go.RowKit
theorem fitN_all {l : List Nd} : FitN l ↔ ∀ x ∈ l, Fit1 x ∧ FitN x.kids := by
  induction l with
  | nil => simp [fitN_nil]
  | cons x r ih => rw [fitN_cons, ih]; simp; exact ⟨fun h => ⟨⟨h.1, h.2.1⟩, h.2.2⟩, fun h => ⟨h.1.1, h.1.2, h.2⟩⟩
theorem fit_merged {l : List Nd} (h : FitN l) (ht : txtN l ≤ 268435456) : FitN (M3.merge l) := by
  have h1 := M3.merge_all (P := fun x => (x.name.size ≤ 268435456 ∧ (∀ a ∈ x.attrs, a.name.size ≤ 268435456 ∧ a.value.size ≤ 268435456) ∧ 1 + x.attrs.length + M3.weight x.kids ≤ 1000000) ∧ FitN x.kids)
    (fun x y hx _ _ _ => by rw [M3.withText_name, M3.withText_attrs, M3.withText_kids]; exact hx) l (fun x hx => by have := fitN_all.1 h x hx; exact ⟨⟨this.1.1, this.1.2.2.1, this.1.2.2.2⟩, this.2⟩)
  have h2 := txtN_merge l
  refine fitN_all.2 (fun x hx => ?_)
  obtain ⟨⟨q1, q2, q3⟩, q4⟩ := h1 x hx
  have := txtN_mem hx
  exact ⟨⟨q1, by omega, q2, q3⟩, q4⟩
theorem fit_goodN (l : List Nd) : Sm30 l → M3.weight l ≤ 1000 → FitN (M3.goodN l) := by
  induction l using Nd.ind with
  | h0 => intro _ _; rw [M3.goodN_nil]; exact fitN_nil
  | h1 k n ats t ks r ih1 ih2 =>
    intro hs hw
    obtain ⟨s1, s2, s3⟩ := sm_cons.1 hs
    rw [M3.weight_cons] at hw
    have hw : 1 + ats.length + M3.weight ks + M3.weight r ≤ 1000 := hw
    rw [M3.goodN_cons, M3.good1_mk]
    refine fitN_cons.2 ?_
    by_cases h : M3.kindN k = 1
    · rw [if_pos h]
      have h1 := M3.goodA_len ats
      have h2 := weight_merge (M3.goodN ks)
      have h3 := good_weight ks
      have h4 := good_txt ks s2
      have h5 := M3.length_le_weight ks
      have h6 := M3.wordN_size n 30 s1.1 (by omega)
      refine ⟨⟨by show (M3.wordN n).size ≤ _; omega, by show (⟨#[]⟩ : ByteArray).size ≤ _; decide, ?_, by show 1 + (M3.goodA ats).length + M3.weight (M3.merge (M3.goodN ks)) ≤ _; omega⟩, fit_merged (ih1 s2 (by omega)) (by omega), ih2 s3 (by omega)⟩
      refine M3.goodA_all ats (fun a ha => ?_)
      have h7 := s1.2.2 a ha
      have h8 := M3.attrN_size a.name 30 h7.1 (by omega)
      have h9 := M3.rightN_size a.value
      exact ⟨by show (M3.attrN a.name).size ≤ _; omega, by show (M3.rightN a.value).size ≤ _; omega⟩
    · rw [if_neg h]
      have h6 := M3.rightN_size t
      have h7 : t.size ≤ 30 := s1.2.1
      refine ⟨⟨by show (⟨#[]⟩ : ByteArray).size ≤ _; decide, by show (M3.rightN t).size ≤ _; omega, fun a ha => (nomatch (show a ∈ ([] : List Att) from ha)), by show 1 + 0 + M3.weight [] ≤ _; rw [M3.weight_nil]; omega⟩, fitN_nil, ih2 s3 (by omega)⟩
def gdN (l : List Nd) : List Nd := M3.good (fewN l)
theorem gd_weight (l : List Nd) : M3.weight (gdN l) ≤ 240 :=
  Nat.le_trans (weight_merge _) (Nat.le_trans (good_weight _) (fewN_weight l))
theorem gd_fit (l : List Nd) : FitN (gdN l) := by
  have h1 := fewN_weight l
  have h2 := good_txt (fewN l) (few_sm l)
  have h3 := M3.length_le_weight (fewN l)
  exact fit_merged (fit_goodN _ (few_sm l) (by omega)) (by omega)
theorem gd_may (l : List Nd) : M3.mayE false (gdN l) = 0 := M3.good_may _
set_option maxHeartbeats 2000000 in
theorem ref03Good (S : Nat → Prop) (v : Value) (l : List Nd) (w : World) (hS : ∀ b, S b → b < w.heap.size) (hr : RepN S w v l) (hsz : SzN l) :
    Calls Tryz.prog 17 #[v] w (FreshPost (gdN l) w) := by
  have hF := Lib.hid (ref03Few S v l w hS hr hsz)
  obtain ⟨a, cap, rfl⟩ := hr.slice
  go_enter Tryz.func17, Tryz.ntmps17
  go_wp2_with fail
  refine hF.out.mono ?_
  rintro e w1 ⟨v1, rfl, hm1, hb1⟩
  have hG := Lib.hid (ref03good (M3.weight (fewN l) + 1) _ v1 (fewN l) w1 (by omega) (by have := fewN_weight l; omega) (few_sm l) (fun b h => h.2) hm1.rep)
  obtain ⟨a1, c1, rfl⟩ := hm1.rep.slice
  clear hm1 hF
  go_wp2_with fail
  refine hG.out.mono ?_
  rintro e w2 ⟨v2, rfl, hf2, hb2⟩
  have hb := bt hb1 hb2
  have hf3 := Lib.hid (hf2.base hb1.size)
  obtain ⟨a2, c2, rfl⟩ := hf2.rep.slice
  clear hf2
  go_wp2_with fail
  go_ret
  exact ⟨_, rfl, hf3.out, hb⟩
end Go.Proofs.YteefodibpjgicaaGreat

namespace Go.Proofs.YteefodibpjgicaaGreat
open Go.RowKit
def dtN : List Nd → Nat
  | [] => 0
  | .mk _ _ _ t ks :: r => t.size + dtN ks + dtN r
termination_by l => SizeOf.sizeOf l
theorem dt_nil : dtN [] = 0 := by rw [dtN]
theorem dt_cons (x : Nd) (r : List Nd) : dtN (x :: r) = x.text.size + dtN x.kids + dtN r := by cases x; rw [dtN]; rfl
theorem dt_append (a b : List Nd) : dtN (a ++ b) = dtN a + dtN b := by
  induction a with
  | nil => rw [List.nil_append, dt_nil, Nat.zero_add]
  | cons x r ih => rw [List.cons_append, dt_cons, dt_cons, ih]; omega
theorem txt_dt (l : List Nd) : txtN l ≤ dtN l := by
  induction l with
  | nil => exact Nat.zero_le _
  | cons x r ih => rw [txtN_cons, dt_cons]; omega
theorem dt_mem {x : Nd} {l : List Nd} (h : x ∈ l) : x.text.size + dtN x.kids ≤ dtN l := by
  induction l with
  | nil => exact (nomatch h)
  | cons y r ih =>
    rw [dt_cons]
    rcases List.mem_cons.1 h with rfl | h
    · omega
    · have := ih h; omega
theorem dt_filter (q : Nd → Bool) (l : List Nd) : dtN (l.filter q) ≤ dtN l := by
  induction l with
  | nil => exact Nat.le_refl _
  | cons x r ih =>
    cases h : q x
    · rw [List.filter_cons_of_neg (by rw [h]; exact Bool.false_ne_true), dt_cons]; omega
    · rw [List.filter_cons_of_pos h, dt_cons, dt_cons]; omega
theorem weight_filter (q : Nd → Bool) (l : List Nd) : M3.weight (l.filter q) ≤ M3.weight l := by
  induction l with
  | nil => exact Nat.le_refl _
  | cons x r ih =>
    cases h : q x
    · rw [List.filter_cons_of_neg (by rw [h]; exact Bool.false_ne_true), M3.weight_cons]; omega
    · rw [List.filter_cons_of_pos h, M3.weight_cons, M3.weight_cons]; omega
theorem fit_filter (q : Nd → Bool) {l : List Nd} (h : FitN l) : FitN (l.filter q) :=
  fitN_iff.2 (fun x hx => fitN_iff.1 h x (List.mem_filter.1 hx).1)
theorem dt_push (out : List Nd) (x : Nd) : dtN (M3.push out x) ≤ dtN out + (x.text.size + dtN x.kids) := by
  cases h : M3.bareB x
  · rcases List.eq_nil_or_concat out with rfl | ⟨o, y, rfl⟩
    · rw [M3.push_none h, dt_cons, dt_nil]; omega
    · rw [List.concat_eq_append, M3.push_snoc h]
      split
      · rw [dt_append, dt_append, dt_cons, dt_cons, M3.withText_text, M3.withText_kids, cat_size, dt_nil]
        omega
      · rw [dt_append, dt_cons, dt_nil]
        omega
  · rw [M3.push_bare h]; omega
theorem dt_merge (l : List Nd) : dtN (M3.merge l) ≤ dtN l := by
  have key : ∀ (l out : List Nd), dtN (l.foldl M3.push out) ≤ dtN out + dtN l := by
    intro l
    induction l with
    | nil => intro out; exact Nat.le_add_right _ _
    | cons x r ih =>
      intro out
      have h1 := ih (M3.push out x)
      have h2 := dt_push out x
      rw [List.foldl_cons, dt_cons]
      omega
  have := key l []
  rw [dt_nil] at this
  simpa [M3.merge] using this
theorem steadyQ_sizes (l : List Nd) : ∀ q, M3.weight (M6.steadyQ q l) ≤ M3.weight l ∧ dtN (M6.steadyQ q l) ≤ dtN l := by
  induction l using Nd.ind with
  | h0 => intro q; rw [M6.steadyQ_nil]; exact ⟨Nat.le_refl _, Nat.le_refl _⟩
  | h1 k n a t ks r ih1 ih2 =>
    intro q
    obtain ⟨r1, r2⟩ := ih2 q
    obtain ⟨k1, k2⟩ := ih1 (M6.fitsB n)
    have h1 := Nat.le_trans (weight_filter (M6.fitsB n) _) (Nat.le_trans (weight_merge _) k1)
    have h2 := Nat.le_trans (dt_filter (M6.fitsB n) _) (Nat.le_trans (dt_merge _) k2)
    rw [M6.steadyQ_cons, M3.weight_append, dt_append, M3.weight_cons, dt_cons]
    show _ + _ ≤ 1 + a.length + M3.weight ks + M3.weight r ∧ _ + _ ≤ t.size + dtN ks + dtN r
    split
    · unfold M6.oneN
      split
      · rw [M3.weight_cons, M3.weight_nil, dt_cons, dt_nil]
        show 1 + a.length + M3.weight ((M3.merge (M6.steadyQ (M6.fitsB n) ks)).filter (M6.fitsB n)) + 0 + _ ≤ _ ∧ t.size + dtN ((M3.merge (M6.steadyQ (M6.fitsB n) ks)).filter (M6.fitsB n)) + 0 + _ ≤ _
        omega
      · rw [M3.weight_cons, M3.weight_nil, dt_cons, dt_nil]
        show 1 + a.length + M3.weight ks + 0 + _ ≤ _ ∧ t.size + dtN ks + 0 + _ ≤ _
        omega
    · rw [M3.weight_nil, dt_nil]; omega
theorem fit_steadyQ (l : List Nd) : ∀ q, FitN l → dtN l ≤ 268435456 → FitN (M6.steadyQ q l) := by
  induction l using Nd.ind with
  | h0 => intro q _ _; rw [M6.steadyQ_nil]; exact fitN_nil
  | h1 k n a t ks r ih1 ih2 =>
    intro q hf hd
    obtain ⟨f1, f2, f3⟩ := fitN_cons.1 hf
    rw [dt_cons] at hd
    have hd : t.size + dtN ks + dtN r ≤ 268435456 := hd
    have f2 : FitN ks := f2
    rw [M6.steadyQ_cons]
    refine fitN_append.2 ⟨?_, ih2 q f3 (by omega)⟩
    split
    · obtain ⟨k1, k2⟩ := steadyQ_sizes ks (M6.fitsB n)
      have h1 := Nat.le_trans (weight_filter (M6.fitsB n) _) (Nat.le_trans (weight_merge _) k1)
      have h3 := txt_dt (M6.steadyQ (M6.fitsB n) ks)
      refine fitN_cons.2 ⟨?_, ?_, fitN_nil⟩
      · obtain ⟨e1, e2, e3, e4⟩ := f1
        unfold M6.oneN
        split
        · refine ⟨e1, e2, e3, ?_⟩
          have e4 : 1 + a.length + M3.weight ks ≤ 1000000 := e4
          show 1 + a.length + M3.weight ((M3.merge (M6.steadyQ (M6.fitsB n) ks)).filter (M6.fitsB n)) ≤ _
          omega
        · exact ⟨e1, e2, e3, e4⟩
      · unfold M6.oneN
        split
        · show FitN ((M3.merge (M6.steadyQ (M6.fitsB n) ks)).filter (M6.fitsB n))
          exact fit_filter _ (fit_merged (ih1 (M6.fitsB n) f2 (by omega)) (by omega))
        · exact f2
    · exact fitN_nil
theorem steady_sizes (l : List Nd) : M3.weight (M6.steady l) ≤ M3.weight l ∧ dtN (M6.steady l) ≤ dtN l :=
  ⟨Nat.le_trans (weight_merge _) (steadyQ_sizes l _).1, Nat.le_trans (dt_merge _) (steadyQ_sizes l _).2⟩
theorem fit_steady {l : List Nd} (h : FitN l) (hd : dtN l ≤ 268435456) : FitN (M6.steady l) := by
  have h1 := txt_dt (M6.steadyQ (fun _ => true) l)
  have h2 := (steadyQ_sizes l (fun _ => true)).2
  exact fit_merged (fit_steadyQ l _ h hd) (by omega)
theorem dt_goodN (l : List Nd) : Sm30 l → dtN (M3.goodN l) ≤ M3.weight l * 120 := by
  induction l using Nd.ind with
  | h0 => intro _; rw [M3.goodN_nil, dt_nil]; exact Nat.zero_le _
  | h1 k n ats t ks r ih1 ih2 =>
    intro hs
    obtain ⟨s1, s2, s3⟩ := sm_cons.1 hs
    have h2 := ih2 s3
    have h1 := Nat.le_trans (dt_merge (M3.goodN ks)) (ih1 s2)
    rw [M3.goodN_cons, M3.good1_mk, dt_cons, M3.weight_cons]
    have hw : (1 + (Nd.mk k n ats t ks).attrs.length + M3.weight (Nd.mk k n ats t ks).kids + M3.weight r) * 120 = 120 + ats.length * 120 + M3.weight ks * 120 + M3.weight r * 120 := by
      show (1 + ats.length + M3.weight ks + M3.weight r) * 120 = _
      omega
    rw [hw]
    split
    · show 0 + dtN (M3.merge (M3.goodN ks)) + _ ≤ _
      omega
    · have h6 := M3.rightN_size t
      have h7 : t.size ≤ 30 := s1.2.1
      show (M3.rightN t).size + dtN [] + _ ≤ _
      rw [dt_nil]
      omega
theorem dt_gd (l : List Nd) : dtN (gdN l) ≤ 28800 := by
  have h1 := Nat.le_trans (dt_merge _) (dt_goodN (fewN l) (few_sm l))
  have h2 := fewN_weight l
  have h3 : dtN (gdN l) ≤ M3.weight (fewN l) * 120 := h1
  omega
end Go.Proofs.YteefodibpjgicaaGreat

namespace Go.Proofs.YteefodibpjgicaaGreat
namespace M7
open M3 (isText withText cat push)
def wk (x : Nd) (ks : List Nd) : Nd := .mk x.kind x.name x.attrs x.text ks
def openN : Nat → List Nd → List ByteArray
  | 0, _ => []
  | d + 1, L => match L.getLast? with | some x => x.name :: openN d x.kids | none => []
def pathN : Nat → List Nd → List Nat
  | 0, _ => []
  | d + 1, L => match L.getLast? with | some x => (L.length - 1) :: pathN d x.kids | none => []
def levelN : Nat → List Nd → List Nd
  | 0, L => L
  | d + 1, L => match L.getLast? with | some x => levelN d x.kids | none => []
def okD : Nat → List Nd → Prop
  | 0, _ => True
  | d + 1, L => match L.getLast? with | some x => okD d x.kids | none => False
def putN : Nat → Nd → List Nd → List Nd
  | 0, n, L => push L n
  | d + 1, n, L => match L.getLast? with | some x => L.dropLast ++ [wk x (putN d n x.kids)] | none => L
theorem openN_snoc (d : Nat) (A : List Nd) (x : Nd) : openN (d + 1) (A ++ [x]) = x.name :: openN d x.kids := by rw [openN]; simp
theorem pathN_snoc (d : Nat) (A : List Nd) (x : Nd) : pathN (d + 1) (A ++ [x]) = A.length :: pathN d x.kids := by rw [pathN]; simp
theorem levelN_snoc (d : Nat) (A : List Nd) (x : Nd) : levelN (d + 1) (A ++ [x]) = levelN d x.kids := by rw [levelN]; simp
theorem okD_snoc (d : Nat) (A : List Nd) (x : Nd) : okD (d + 1) (A ++ [x]) = okD d x.kids := by rw [okD]; simp
theorem putN_snoc (d : Nat) (n : Nd) (A : List Nd) (x : Nd) : putN (d + 1) n (A ++ [x]) = A ++ [wk x (putN d n x.kids)] := by rw [putN]; simp
theorem openN_len {d : Nat} {L : List Nd} (h : okD d L) : (openN d L).length = d := by
  induction d generalizing L with
  | zero => rfl
  | succ d ih =>
    rcases List.eq_nil_or_concat L with rfl | ⟨A, x, rfl⟩
    · exact h.elim
    · rw [List.concat_eq_append, okD_snoc] at h
      rw [List.concat_eq_append, openN_snoc, List.length_cons, ih h]
theorem put_keeps {d : Nat} {L : List Nd} (x : Nd) (h : okD d L) : okD d (putN d x L) ∧ openN d (putN d x L) = openN d L ∧ (0 < d → (putN d x L).length = L.length) := by
  induction d generalizing L with
  | zero => exact ⟨trivial, rfl, fun h => absurd h (Nat.lt_irrefl _)⟩
  | succ d ih =>
    rcases List.eq_nil_or_concat L with rfl | ⟨A, y, rfl⟩
    · exact h.elim
    · rw [List.concat_eq_append, okD_snoc] at *
      obtain ⟨h1, h2, _⟩ := ih h
      rw [putN_snoc, okD_snoc, openN_snoc, openN_snoc]
      refine ⟨h1, ?_, fun _ => by simp⟩
      show y.name :: openN d (putN d x y.kids) = _
      rw [h2]
theorem put_path {d : Nat} {L : List Nd} (x : Nd) (h : okD d L) : pathN d (putN d x L) = pathN d L := by
  induction d generalizing L with
  | zero => rfl
  | succ d ih =>
    rcases List.eq_nil_or_concat L with rfl | ⟨A, y, rfl⟩
    · exact h.elim
    · rw [List.concat_eq_append, okD_snoc] at *
      rw [putN_snoc, pathN_snoc, pathN_snoc]
      show A.length :: pathN d (putN d x y.kids) = _
      rw [ih h]
theorem put_level {d : Nat} {L : List Nd} (x : Nd) (h : okD d L) : levelN d (putN d x L) = push (levelN d L) x := by
  induction d generalizing L with
  | zero => rfl
  | succ d ih =>
    rcases List.eq_nil_or_concat L with rfl | ⟨A, y, rfl⟩
    · exact h.elim
    · rw [List.concat_eq_append, okD_snoc] at *
      rw [putN_snoc, levelN_snoc, levelN_snoc]
      exact ih h
theorem openN_more {d : Nat} {L A : List Nd} {x : Nd} (h : okD d L) (hl : levelN d L = A ++ [x]) : okD (d + 1) L ∧ openN (d + 1) L = openN d L ++ [x.name] ∧ pathN (d + 1) L = pathN d L ++ [A.length] := by
  induction d generalizing L with
  | zero =>
    have hl : L = A ++ [x] := hl
    subst hl
    rw [okD_snoc, openN_snoc, pathN_snoc]
    exact ⟨trivial, rfl, rfl⟩
  | succ d ih =>
    rcases List.eq_nil_or_concat L with rfl | ⟨B, y, rfl⟩
    · exact h.elim
    · rw [List.concat_eq_append] at *
      rw [okD_snoc] at h
      rw [levelN_snoc] at hl
      obtain ⟨h1, h2, h3⟩ := ih h hl
      rw [okD_snoc, openN_snoc, openN_snoc, pathN_snoc, pathN_snoc]
      exact ⟨h1, by rw [h2]; rfl, by rw [h3]; rfl⟩
theorem put_open {d : Nat} {L : List Nd} (x : Nd) (h : okD d L) (hk : isText x = false) : okD (d + 1) (putN d x L) ∧ openN (d + 1) (putN d x L) = openN d L ++ [x.name] ∧ pathN (d + 1) (putN d x L) = pathN d L ++ [(levelN d L).length] := by
  obtain ⟨h1, h2, _⟩ := put_keeps x h
  have hb : M3.bareB x = false := by unfold M3.bareB; rw [hk]; rfl
  have hl : levelN d (putN d x L) = levelN d L ++ [x] := by
    rw [put_level x h]
    rcases List.eq_nil_or_concat (levelN d L) with e | ⟨o, y, e⟩
    · rw [e, M3.push_none hb]; rfl
    · rw [e, List.concat_eq_append, M3.push_snoc hb, hk]
      simp
  obtain ⟨q1, q2, q3⟩ := openN_more h1 hl
  exact ⟨q1, by rw [q2, h2], by rw [q3, put_path x h]⟩
def elT (t : Tok) : Nd := .mk 1 t.name t.attrs ⟨#[]⟩ []
def txT (t : Tok) : Nd := .mk 2 ⟨#[]⟩ [] t.text []
def coT (t : Tok) : Nd := .mk 3 ⟨#[]⟩ [] t.text []
def closeAt (o : List ByteArray) (b : ByteArray) : Nat → Nat
  | 0 => 0
  | n + 1 => if M6.closesB (o.getD n ⟨#[]⟩).data.toList b.data.toList then closeAt o b n else n + 1
def endAt (o : List ByteArray) (nm : ByteArray) : Nat → Option Nat
  | 0 => none
  | i + 1 => if (o.getD i ⟨#[]⟩).data.toList = nm.data.toList then some i else endAt o nm i
structure St where
  L : List Nd
  d : Nat
def step (s : St) (t : Tok) : St :=
  if t.kind = 1 then
    let n := closeAt (openN s.d s.L) t.name s.d
    ⟨putN n (elT t) s.L, if M3.voidB t.name.data.toList then n else n + 1⟩
  else if t.kind = 2 then (match endAt (openN s.d s.L) t.name s.d with | some i => ⟨s.L, i⟩ | none => s)
  else if t.kind = 3 then ⟨putN s.d (txT t) s.L, s.d⟩
  else if t.kind = 4 then ⟨putN s.d (coT t) s.L, s.d⟩
  else s
def run (l : List Tok) : St := l.foldl step ⟨[], 0⟩
def tree (l : List Tok) : List Nd := (run l).L
theorem run_snoc (l : List Tok) (t : Tok) : run (l ++ [t]) = step (run l) t := by unfold run; rw [List.foldl_append]; rfl
end M7
end Go.Proofs.YteefodibpjgicaaGreat
