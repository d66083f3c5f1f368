/- Texts joined: Mod2, Ref03f, Ref03y, Ref03z, Ref03x, Math3g, Ref03g, Law03v, Ref03h, Good, Ref06b. -/
import Derived.Deep.RegionHeld3
import Derived.StillTailTactics
import Derived.Outline
import Derived.Deep.CutRange
import Derived.Test.YtbnfaijkmbgpmaaH1
import Derived.Test.YtbnfaijkmbgpmaaH2
import Derived.Test.YtbnfaijkmbgpmaaH3
import Derived.Test.YtbnfaijkmbgpmaaH4
import Derived.Test.YtbnfaijkmbgpmaaH5
/- Package model: whether a raw element ends in its text; which nodes fit, and last. -/
namespace Go.Proofs.Ytbnfaijkmbgpmaa
open Go.RowKit

theorem endV_some (o : Option Nat) (n : Nat) : (endV o == (n : Int)) = (o == some n) := by
  rw [Bool.eq_iff_iff]
  cases o with
  | none => simp [endV]
  | some k => simp [endV]; omega

/-- A raw element's text and its end behind it. -/
theorem held_data (nm tx : ByteArray) : (tx ++ ⟨#[60, 47]⟩ ++ nm ++ ⟨#[62]⟩ : ByteArray).data.toList = tx.data.toList ++ ([60, 47] ++ nm.data.toList ++ [62]) := by
  simp [ByteArray.data_append, Array.toList_append]

set_option maxHeartbeats 1000000 in
theorem modHeld (nm tx : ByteArray) (w : World) (hn : nm.size ≤ 268435456) (ht : tx.size ≤ 268435456) :
    Calls Try.prog 31 #[.string nm, .string tx] w fun e w' => e = .returned (.bool (M6.endsHere nm.data.toList tx.data.toList)) ∧ Below w.heap.size w w' := by
  have hz : (tx ++ ⟨#[60, 47]⟩ ++ nm ++ ⟨#[62]⟩ : ByteArray).size ≤ 1073741824 := by
    simp only [ByteArray.size_append]
    show tx.size + 2 + nm.size + 1 ≤ _
    omega
  have hE := fun w => tokEnds (tx ++ ⟨#[60, 47]⟩ ++ nm ++ ⟨#[62]⟩ : ByteArray) nm w hz (by omega)
  rw [held_data] at hE
  have hv : Hid ((endV (M5.endsL ([60, 47] ++ nm.data.toList) (tx.data.toList ++ ([60, 47] ++ nm.data.toList ++ [62]))) == (tx.size : Int)) = M6.endsHere nm.data.toList tx.data.toList) := by
    show _ = _
    rw [endV_some]
    rfl
  generalize M5.endsL ([60, 47] ++ nm.data.toList) (tx.data.toList ++ ([60, 47] ++ nm.data.toList ++ [62])) = o at *
  replace hE := Lib.hid hE
  have a1 : ¬ 9223372036854775807 < tx.size + 2 := by omega
  have a2 : ¬ 9223372036854775807 < tx.size + 2 + nm.size := by omega
  have a3 : ¬ 9223372036854775807 < tx.size + 2 + nm.size + 1 := by omega
  clear hz
  obtain ⟨wo, rfl⟩ : ∃ wo : World, wo = w := ⟨_, rfl⟩
  go_enter Try.func31, Try.ntmps31
  go_wp2_with fail
  refine (hE.out _).mono ?_
  rintro e w1 ⟨rfl, hb⟩
  go_wp2_with fail
  go_ret
  exact ⟨by rw [← hv.out]; rfl, hb⟩

def BoolB (b : Bool) (w : World) (e : Ending) (w' : World) : Prop := e = .returned (.bool b) ∧ Below w.heap.size w w'

set_option maxHeartbeats 2000000 in
theorem modFits (p : ByteArray) (x : Nd) (va vk : Value) (w : World) (hva : ∃ a n c, va = .slice a n c) (hvk : ∃ a n c, vk = .slice a n c) (hp : p.size ≤ 268435456) (ht : x.text.size ≤ 268435456) :
    Calls Try.prog 15 #[.string p, x.val va vk] w (BoolB (M6.fitsB p x) w) := by
  obtain ⟨a1, n1, c1, rfl⟩ := hva
  obtain ⟨a2, n2, c2, rfl⟩ := hvk
  have hV := Lib.hid (fun w => domVoid p w)
  have hR := Lib.hid (fun w => domRaw p w)
  have hH := Lib.hid (fun w => modHeld p x.text w hp ht)
  have hC := Lib.hid (fun w => modCloses p x.name w (by omega))
  obtain ⟨k, n, ats, t, ks⟩ := x
  simp only [Nd.text, Nd.name] at hH hC ht
  have hfit : M6.fitsB p (.mk k n ats t ks) = if M3.voidB p.data.toList then false else if M3.rawB p.data.toList then (k == 2) && M6.endsHere p.data.toList t.data.toList else !(decide (k = 1) && M6.closesB p.data.toList n.data.toList) := rfl
  rw [hfit]
  clear hfit
  show Calls Try.prog 15 #[.string p, .agg #[.int .i64 k, .string n, .slice a1 n1 c1, .string t, .slice a2 n2 c2]] w (BoolB _ w)
  obtain ⟨wo, rfl⟩ : ∃ wo : World, wo = w := ⟨_, rfl⟩
  have bx := Box.new wo 32 [.int .i64 k, .string n, .slice a1 n1 c1, .string t, .slice a2 n2 c2]
  have hb0 : Below wo.heap.size wo (wo.alloc (.cells #[.int .i64 k, .string n, .slice a1 n1 c1, .string t, .slice a2 n2 c2] 32)) := (Below.refl _ wo).alloc (Nat.le_refl _) _
  cases hv : M3.voidB p.data.toList
  · cases hr : M3.rawB p.data.toList
    · generalize M6.closesB p.data.toList n.data.toList = cb at *
      rw [hv] at hV
      rw [hr] at hR
      rw [if_neg Bool.false_ne_true, if_neg Bool.false_ne_true]
      cases hk : (k == 1)
      · rw [show decide (k = 1) = false from hk]
        have hk3 : (k != 1) = true := by rw [bne, hk]; rfl
        go_enter Try.func15, Try.ntmps15
        go_wp2_with fail
        refine (hV.out _).mono ?_
        rintro e w1 ⟨rfl, rfl⟩
        go_wp2_with fail
        refine (hR.out _).mono ?_
        rintro e w1 ⟨rfl, rfl⟩
        go_wp2_with fail
        go_ret
        exact ⟨rfl, hb0⟩
      · rw [show decide (k = 1) = true from hk]
        have hk3 : (k != 1) = false := by rw [bne, hk]; rfl
        go_enter Try.func15, Try.ntmps15
        go_wp2_with fail
        refine (hV.out _).mono ?_
        rintro e w1 ⟨rfl, rfl⟩
        go_wp2_with fail
        refine (hR.out _).mono ?_
        rintro e w1 ⟨rfl, rfl⟩
        go_wp2_with fail
        refine (hC.out _).mono ?_
        rintro e w1 ⟨rfl, hb1⟩
        go_wp2_with fail
        go_ret
        exact ⟨rfl, bt hb0 hb1⟩
    · generalize M6.endsHere p.data.toList t.data.toList = eb at *
      rw [hv] at hV
      rw [hr] at hR
      rw [if_neg Bool.false_ne_true, if_pos rfl]
      cases hk : (k == 2)
      · go_enter Try.func15, Try.ntmps15
        go_wp2_with fail
        refine (hV.out _).mono ?_
        rintro e w1 ⟨rfl, rfl⟩
        go_wp2_with fail
        refine (hR.out _).mono ?_
        rintro e w1 ⟨rfl, rfl⟩
        go_wp2_with fail
        go_ret
        exact ⟨rfl, hb0⟩
      · go_enter Try.func15, Try.ntmps15
        go_wp2_with fail
        refine (hV.out _).mono ?_
        rintro e w1 ⟨rfl, rfl⟩
        go_wp2_with fail
        refine (hR.out _).mono ?_
        rintro e w1 ⟨rfl, rfl⟩
        go_wp2_with fail
        refine (hH.out _).mono ?_
        rintro e w1 ⟨rfl, hb1⟩
        go_wp2_with fail
        go_ret
        exact ⟨rfl, bt hb0 hb1⟩
  · rw [if_pos rfl]
    rw [hv] at hV
    go_enter Try.func15, Try.ntmps15
    go_wp2_with fail
    refine (hV.out _).mono ?_
    rintro e w1 ⟨rfl, rfl⟩
    go_wp2_with fail
    go_ret
    exact ⟨rfl, hb0⟩

def lastsB (p : ByteArray) (x : Nd) : Bool := !(M6.remB x) && M6.fitsB p x

set_option maxHeartbeats 2000000 in
theorem modLasts (p : ByteArray) (x : Nd) (va vk : Value) (w : World) (hg : Glo w) (hva : ∃ a n c, va = .slice a n c) (hvk : ∃ a n c, vk = .slice a n c) (hp : p.size ≤ 268435456) (ht : x.text.size ≤ 268435456) :
    Calls Try.prog 58 #[.string p, x.val va vk] w (BoolB (lastsB p x) w) := by
  have hF := Lib.hid (fun w => modFits p x va vk w hva hvk hp ht)
  obtain ⟨a1, n1, c1, rfl⟩ := hva
  obtain ⟨a2, n2, c2, rfl⟩ := hvk
  have hC := Lib.hid (fun w h => contains_rem x.text w h (by omega))
  have hl : lastsB p x = (!((x.kind == 3) && M6.hasB [45, 45, 62] x.text.data.toList) && M6.fitsB p x) := rfl
  rw [hl]
  clear hl
  generalize M6.fitsB p x = fb at *
  obtain ⟨k, n, ats, t, ks⟩ := x
  simp only [Nd.text, Nd.kind] at hC ht ⊢
  show Calls Try.prog 58 #[.string p, .agg #[.int .i64 k, .string n, .slice a1 n1 c1, .string t, .slice a2 n2 c2]] w (BoolB _ w)
  change Hid (∀ w, Calls Try.prog 15 #[.string p, .agg #[.int .i64 k, .string n, .slice a1 n1 c1, .string t, .slice a2 n2 c2]] w (BoolB fb w)) at hF
  obtain ⟨wo, rfl⟩ : ∃ wo : World, wo = w := ⟨_, rfl⟩
  have bx := Box.new wo 32 [.int .i64 k, .string n, .slice a1 n1 c1, .string t, .slice a2 n2 c2]
  have hb0 : Below wo.heap.size wo (wo.alloc (.cells #[.int .i64 k, .string n, .slice a1 n1 c1, .string t, .slice a2 n2 c2] 32)) := (Below.refl _ wo).alloc (Nat.le_refl _) _
  have hg0 := Lib.hid (hg.below hb0 (Nat.le_refl _))
  generalize M6.hasB [45, 45, 62] t.data.toList = hb at *
  cases hk : (k == 3)
  · go_enter Try.func58, Try.ntmps58
    go_wp2_with fail
    refine (hF.out _).mono ?_
    rintro e w1 ⟨rfl, hb1⟩
    go_wp2_with fail
    go_ret
    exact ⟨rfl, bt hb0 hb1⟩
  · cases hb
    · go_enter Try.func58, Try.ntmps58
      go_wp2_with fail
      refine (hC.out _ hg0.out).mono ?_
      rintro e w1 ⟨rfl, hb1⟩
      have bx1 := bx.below hb1 (by simp)
      have p0 := bx1.cell (i := 0) rfl
      have p1 := bx1.cell (i := 1) rfl
      have p2 := bx1.cell (i := 2) rfl
      have p3 := bx1.cell (i := 3) rfl
      have p4 := bx1.cell (i := 4) rfl
      go_wp2_with fail
      refine (hF.out _).mono ?_
      rintro e w2 ⟨rfl, hb2⟩
      go_wp2_with fail
      go_ret
      exact ⟨rfl, bt (bt hb0 hb1) hb2⟩
    · go_enter Try.func58, Try.ntmps58
      go_wp2_with fail
      refine (hC.out _ hg0.out).mono ?_
      rintro e w1 ⟨rfl, hb1⟩
      go_wp2_with fail
      go_ret
      exact ⟨rfl, bt hb0 hb1⟩
end Go.Proofs.Ytbnfaijkmbgpmaa

/- The reference of layer 3: merged, of nodes that the call has made, nothing shared. -/
namespace Go.Proofs.Ytbnfaijkmbgpmaa
open Go.RowKit

theorem OwnC.nv {w : World} (l : List Nd) : ∀ (xs : List Value) (F : List Nat), OwnC w xs l F → ∃ L : List NV, L.map NV.x = l ∧ xs = cellsV L ∧ ∀ b ∈ L, b.ok := by
  induction l using Nd.ind with
  | h0 => intro xs F h; rw [OwnC] at h; exact ⟨[], rfl, h.1, fun b hb => by cases hb⟩
  | h1 k n ats t ks r _ ih2 =>
    intro xs F h
    obtain ⟨va, vk, zs, ys, F1, F2, rfl, h2, h3, rfl, h5, h6⟩ := OwnC.cons_iff.1 h
    obtain ⟨L, rfl, rfl, hL⟩ := ih2 _ _ h6
    refine ⟨⟨.mk k n ats t ks, va, vk⟩ :: L, rfl, rfl, fun b hb => ?_⟩
    rcases List.mem_cons.1 hb with rfl | hb
    · exact ⟨own_slice h2, own_slice h3⟩
    · exact hL b hb

theorem OwnC.one {w : World} {b : NV} {F : List Nat} (h : OwnC w b.cells [b.x] F) : ∃ zs F1, w.ownsRow 0 51 2 b.va b.x.attrs.length (cellsA b.x.attrs) ∧ w.ownsRow 0 32 5 b.vk b.x.kids.length zs ∧ F = b.va.ownBlock.toList ++ (b.vk.ownBlock.toList ++ F1) ∧ OwnC w zs b.x.kids F1 := by
  obtain ⟨va, vk, zs, ys, F1, F2, h1, h2, h3, rfl, h5, h6⟩ := OwnC.cons_iff.1 h
  rw [OwnC] at h6
  obtain ⟨rfl, rfl⟩ := h6
  obtain ⟨x, va', vk'⟩ := b
  cases h1
  exact ⟨zs, F1, h2, h3, by simp, h5⟩

theorem OwnC.mk_one {w : World} {b : NV} {zs : List Value} {F1 : List Nat} (h2 : w.ownsRow 0 51 2 b.va b.x.attrs.length (cellsA b.x.attrs)) (h3 : w.ownsRow 0 32 5 b.vk b.x.kids.length zs) (h5 : OwnC w zs b.x.kids F1) :
    OwnC w b.cells [b.x] (b.va.ownBlock.toList ++ (b.vk.ownBlock.toList ++ F1)) :=
  OwnC.cons_iff.2 ⟨b.va, b.vk, zs, [], F1, [], by simp, h2, h3, by simp, h5, OwnC.nil _⟩

theorem OwnC.split {w : World} {m : List Nd} {ys : List Value} (l : List Nd) : ∀ (xs : List Value) (F : List Nat), xs.length = l.length * 5 → OwnC w (xs ++ ys) (l ++ m) F → ∃ F1 F2, F = F1 ++ F2 ∧ OwnC w xs l F1 ∧ OwnC w ys m F2 := by
  induction l using Nd.ind with
  | h0 =>
    intro xs F hl h
    obtain rfl : xs = [] := List.eq_nil_of_length_eq_zero (by simpa using hl)
    exact ⟨[], F, rfl, OwnC.nil _, h⟩
  | h1 k n ats t ks r _ ih2 =>
    intro xs F hl h
    obtain ⟨va, vk, zs, ys', F1, F2, h1, h2, h3, rfl, h5, h6⟩ := OwnC.cons_iff.1 h
    obtain ⟨xs', rfl⟩ : ∃ xs', xs = (Nd.mk k n ats t ks).cells va vk ++ xs' := by
      match xs, hl, h1 with
      | c0 :: c1 :: c2 :: c3 :: c4 :: xs', _, h1 =>
        simp only [List.cons_append, List.cons.injEq, List.nil_append] at h1
        obtain ⟨rfl, rfl, rfl, rfl, rfl, _⟩ := h1
        exact ⟨xs', rfl⟩
      | [], hl, _ | [_], hl, _ | [_, _], hl, _ | [_, _, _], hl, _ | [_, _, _, _], hl, _ => exact absurd hl (by simp <;> omega)
    rw [List.append_assoc] at h1
    have h1' : xs' ++ ys = ys' := List.append_cancel_left h1
    subst h1'
    obtain ⟨G1, G2, rfl, g1, g2⟩ := ih2 xs' F2 (by simp at hl; omega) h6
    exact ⟨_, G2, (by rw [← List.append_assoc]), OwnC.cons_iff.2 ⟨va, vk, zs, xs', F1, G1, rfl, h2, h3, rfl, h5, g1⟩, g2⟩

theorem OwnC.text {w : World} {b : NV} {F : List Nat} (t : ByteArray) (h : OwnC w b.cells [b.x] F) : OwnC w (b.withText t).cells [(b.withText t).x] F := by
  obtain ⟨zs, F1, h1, h2, rfl, h4⟩ := h.one
  obtain ⟨⟨k, n, ats, t0, ks⟩, va, vk⟩ := b
  exact OwnC.mk_one (b := ⟨.mk k n ats t ks, va, vk⟩) h1 h2 h4

theorem ownC_merge {w : World} : ∀ (L out : List NV) (F Fo : List Nat), OwnC w (cellsV L) (L.map NV.x) F → OwnC w (cellsV out) (out.map NV.x) Fo → ∃ F', OwnC w (cellsV (L.foldl pushV out)) ((L.foldl pushV out).map NV.x) F' ∧ F'.Sublist (Fo ++ F) := by
  intro L
  induction L with
  | nil => intro out F Fo h ho; rw [OwnC.eq_def] at h; exact ⟨Fo, ho, by simp⟩
  | cons b r ih =>
    intro out F Fo h ho
    rw [cellsV_cons, ← List.singleton_append, List.map_append] at h
    obtain ⟨Fb, Fr, rfl, hb, hr⟩ := OwnC.split [b.x] b.cells F rfl h
    rw [List.foldl_cons]
    have key : ∃ Fp, OwnC w (cellsV (pushV out b)) ((pushV out b).map NV.x) Fp ∧ Fp.Sublist (Fo ++ Fb) := by
      cases hbr : bareV b
      · rcases List.eq_nil_or_concat out with rfl | ⟨o, y, rfl⟩
        · rw [pushV_nil hbr, cellsV_one]
          exact ⟨Fb, hb, List.sublist_append_right _ _⟩
        · rw [List.concat_eq_append] at ho ⊢
          rw [pushV_snoc hbr]
          split
          · rw [cellsV_snoc, List.map_append] at ho
            obtain ⟨G1, G2, rfl, g1, g2⟩ := OwnC.split (o.map NV.x) (cellsV o) Fo (by rw [cellsV_len, List.length_map]) ho
            refine ⟨G1 ++ G2, ?_, List.sublist_append_left _ _⟩
            rw [cellsV_snoc, List.map_append]
            exact OwnC.append (OwnC.text _ g2) _ _ _ g1
          · refine ⟨Fo ++ Fb, ?_, List.Sublist.refl _⟩
            rw [cellsV_snoc, List.map_append]
            exact OwnC.append hb _ _ _ ho
      · rw [pushV_bare hbr]
        exact ⟨Fo, ho, List.sublist_append_left _ _⟩
    obtain ⟨Fp, hp, hs⟩ := key
    obtain ⟨F', h1, h2⟩ := ih (pushV out b) Fr Fp hr hp
    refine ⟨F', h1, h2.trans ?_⟩
    rw [← List.append_assoc]
    exact List.Sublist.append hs (List.Sublist.refl _)

def FreshB (B : Nat) (l : List Nd) (w : World) (e : Ending) (w' : World) : Prop := ∃ v', e = .returned v' ∧ Fresh w' B v' l ∧ Below w.heap.size w w'

theorem ref03MergeF (B : Nat) (v : Value) (l : List Nd) (w : World) (hB : B ≤ w.heap.size) (hf : Fresh w B v l) (hl : l.length ≤ 1000000) (ht : txtN l ≤ 1073741824) :
    Calls Try.prog 43 #[v] w (FreshB B (M3.merge l) w) := by
  obtain ⟨zs, F, hown, hoc, hsp⟩ := hf
  obtain ⟨L, rfl, rfl, hL⟩ := OwnC.nv _ _ _ hoc
  rw [List.length_map] at hown hl
  refine (ref03MergeV (fun b => b < w.heap.size) v L w (fun _ h => h) (Row.own hown (fun g hg => (hown.lt g hg).2)) hL hl (by rw [← txtV_map] at ht; exact ht)).mono ?_
  rintro e w1 ⟨v1, rfl, hown1, hb⟩
  obtain ⟨F', h1, h2⟩ := ownC_merge L [] F [] hoc (OwnC.nil _)
  rw [List.nil_append] at h2
  refine ⟨v1, rfl, ⟨cellsV (mergeV L), F', ?_, ?_, ?_⟩, hb⟩
  · rw [← mergeV_map, List.length_map]; exact own_base hown1 (fun g hg => by have := (hown1.lt g hg).1; omega)
  · rw [← mergeV_map]
    exact OwnC.keep _ _ _ (fun b hb' => hb.block b (hsp.2 b (List.mem_append_right _ (h2.subset hb'))).2) h1
  · have hz := hb.size
    have s1 := Span.own hown1
    refine ⟨List.nodup_append.2 ⟨s1.1, h2.nodup (List.nodup_append.1 hsp.1).2.1, fun a ha b hb' e => ?_⟩, fun b hb' => ?_⟩
    · have h3 := (s1.2 a ha).1
      have h4 := (hsp.2 b (List.mem_append_right _ (h2.subset hb'))).2
      omega
    · rcases List.mem_append.1 hb' with h | h
      · have := s1.2 b h; omega
      · have := hsp.2 b (List.mem_append_right _ (h2.subset h)); omega

end Go.Proofs.Ytbnfaijkmbgpmaa

/- The reference of layer 3: which nodes may be. -/
namespace Go.Proofs.Ytbnfaijkmbgpmaa
open Go.RowKit

def seenA (ats : List Att) (i : Nat) : List ByteArray := (ats.take i).map Att.name

theorem seenA_len (ats : List Att) (i : Nat) (h : i ≤ ats.length) : (seenA ats i).length = i := by simp [seenA]; omega

theorem seenA_get (ats : List Att) (i k : Nat) (hk : k < i) (hi : i ≤ ats.length) : (seenA ats i)[k]? = some ats[k].name := by
  unfold seenA
  rw [List.getElem?_map, List.getElem?_take, if_pos hk, List.getElem?_eq_getElem (by omega)]
  rfl

theorem names_at' (ats : List Att) (i : Nat) (h : i < ats.length) : M3.namesE (seenA ats i) (ats.drop i) = if M3.attributedB ats[i].name.data.toList then (if (seenA ats i).any (M3.eqB ats[i].name) then 5 else M3.namesE (seenA ats (i + 1)) (ats.drop (i + 1))) else 4 := by
  have htk : seenA ats (i + 1) = seenA ats i ++ [ats[i].name] := by
    unfold seenA
    rw [List.take_succ_eq_append_getElem h, List.map_append]; rfl
  rw [List.drop_eq_getElem_cons h, M3.namesE, htk]

theorem values_at (ats : List Att) (i : Nat) (h : i < ats.length) : M3.valuesE (ats.drop i) = if M1.isB ats[i].value.data.toList then M3.valuesE (ats.drop (i + 1)) else 2 := by
  rw [List.drop_eq_getElem_cons h, M3.valuesE]

theorem any_at {l : List ByteArray} {p : ByteArray → Bool} {k : Nat} {s : ByteArray} (h : l[k]? = some s) (hp : p s = true) : l.any p = true :=
  List.any_eq_true.2 ⟨s, List.mem_of_getElem? h, hp⟩

theorem eqB_comm (s t : ByteArray) : M3.eqB s t = (t.toList == s.toList) := by
  unfold M3.eqB
  rw [Bool.eq_iff_iff, beq_iff_eq, beq_iff_eq]
  exact eq_comm

def IntPost (n : Int) (w : World) (e : Ending) (w' : World) : Prop := e = .returned (.int .i64 n) ∧ Below w.heap.size w w'

set_option maxHeartbeats 8000000 in
set_option maxRecDepth 100000 in
theorem ref03Element (S : Nat → Prop) (x : Nd) (va vk : Value) (w : World) (hS : ∀ b, S b → b < w.heap.size) (hx : RepV S w x va vk) (hf : Fit1 x) :
    Calls Try.prog 77 #[x.val va vk] w (IntPost (M3.elemE x) w) := by
  obtain ⟨hat, hkd⟩ := hx
  obtain ⟨a, cap, rfl⟩ := hat.slice
  obtain ⟨_, hlc, hcm⟩ := hat.len
  obtain ⟨a2, cap2, rfl⟩ := hkd.slice
  cases x with | mk k n ats t ks =>
  obtain ⟨hf1, hf2, hf3, _⟩ := hf
  simp only [Nd.val, Nd.kind, Nd.name, Nd.text, Nd.attrs, Nd.kids] at *
  have hb0 := (Below.refl w.heap.size w).alloc (Nat.le_refl _) (.cells #[.int .i64 k, .string n, .slice a ats.length cap, .string t, .slice a2 ks.length cap2] 32)
  have hbx0 := Box.new w 32 [.int .i64 k, .string n, .slice a ats.length cap, .string t, .slice a2 ks.length cap2]
  have hNa := Lib.hid (fun W => ref03Named n W (by omega))
  have hr : M3.elemE (.mk k n ats t ks) = if t.toList.isEmpty then (if M3.namedB n.data.toList then (if M3.namesE [] ats = 0 then M3.valuesE ats else M3.namesE [] ats) else 4) else 7 := rfl
  generalize M3.namedB n.data.toList = p at *
  cases hte : t.toList.isEmpty
  · rw [hte] at hr
    replace hr : Hid (M3.elemE (.mk k n ats t ks) = 7) := hr
    go_enter Try.func77, Try.ntmps77
    go_wp2_with fail
    refine (hNa.out _).mono ?_
    rintro e w1 ⟨rfl, rfl⟩
    go_wp2
    go_ret
    exact ⟨by rw [hr.out]; rfl, hb0⟩
  rw [hte] at hr
  cases p
  · replace hr : Hid (M3.elemE (.mk k n ats t ks) = 4) := hr
    go_enter Try.func77, Try.ntmps77
    go_wp2_with fail
    refine (hNa.out _).mono ?_
    rintro e w1 ⟨rfl, rfl⟩
    go_wp2
    go_ret
    exact ⟨by rw [hr.out]; rfl, hb0⟩
  replace hr : Hid (M3.elemE (.mk k n ats t ks) = if M3.namesE [] ats = 0 then M3.valuesE ats else M3.namesE [] ats) := hr
  have hz0 : w.heap.size < (w.alloc (.cells #[.int .i64 k, .string n, .slice a ats.length cap, .string t, .slice a2 ks.length cap2] 32)).heap.size := by simp
  have hn0 : Hid (M3.namesE [] ats = M3.namesE (seenA ats 0) (ats.drop 0)) := rfl
  replace hf3 := Lib.hid hf3
  go_enter Try.func77, Try.ntmps77
  go_wp2_with fail
  refine (hNa.out _).mono ?_
  rintro e w1 ⟨rfl, rfl⟩
  go_wp2_with fail
  go_loopw [4, 5, 6] (fun u4 _ _ wr => ∃ i : Nat, i ≤ ats.length ∧ u4 = .int .i64 (i : Int) ∧ Hid (M3.namesE [] ats = M3.namesE (seenA ats i) (ats.drop i)) ∧ Below w.heap.size w wr ∧ Box wr w.heap.size 32 [.int .i64 k, .string n, .slice a ats.length cap, .string t, .slice a2 ks.length cap2]) (fun u4 _ _ _ => ats.length - (intOf u4).toNat)
  case atStart => exact ⟨0, by omega, rfl, hn0, hb0, hbx0⟩
  case round =>
    obtain ⟨i, hi, rfl, hv, hb, hbx⟩ := hrel
    clear hn0 hbx0 hb0 hz0 hNa
    have hz := hbx.lt
    have q2 := hbx.cell (i := 2) rfl
    by_cases hlt : i < ats.length
    · obtain ⟨b, off, rfl, hSb, c0, c1⟩ := (hat.below hS hb).atA i hlt
      have hbl := hS b hSb
      have hna := names_at' ats i hlt
      have hfa := (hf3.out _ (List.getElem_mem hlt)).1
      have hget := Lib.hid (fun k (hk : k < i) => seenA_get ats i k hk hi)
      have hA := Lib.hid (fun W => ref03Attributed ats[i].name W hfa)
      have hsl := seenA_len ats i hi
      generalize hnm : ats[i].name = nm at *
      generalize M3.attributedB nm.data.toList = p at *
      replace hna := hv.out.trans hna
      have hI0 : (0 : Int) ≤ (i : Int) := by omega
      have hI1 : (i : Int) < (ats.length : Int) := by omega
      obtain ⟨wo, rfl⟩ : ∃ wo : World, wo = wr := ⟨_, rfl⟩
      replace hsl := Lib.hid hsl
      replace hnm := Lib.hid hnm
      cases p
      · replace hna : Hid (M3.namesE [] ats = 4) := hna
        rw [hna.out] at hr
        replace hr : Hid (M3.elemE (.mk k n ats t ks) = 4) := hr
        go_wp2_with fail
        refine (hA.out _).mono ?_
        rintro e w2 ⟨rfl, hb2⟩
        go_wp2
        go_ret
        exact ⟨by rw [hr.out]; rfl, hb.trans (hb2.mono (by omega))⟩
      · replace hna : Hid (M3.namesE [] ats = if (seenA ats i).any (M3.eqB nm) then 5 else M3.namesE (seenA ats (i + 1)) (ats.drop (i + 1))) := hna
        clear hv
        go_wp2_with fail
        refine (hA.out _).mono ?_
        rintro e w2 ⟨rfl, hb2⟩
        have hbx2 := hbx.below hb2 hz
        have c0' := (hb2.cell (p := ⟨b, off + i * 2, none⟩) (by simp; omega)).trans c0
        have hb02 : Below w.heap.size w w2 := hb.trans (hb2.mono (by omega))
        clear hA hbx q2 c0 c1
        go_wp2_with fail
        go_loopw [6] (fun u6 wr => ∃ j : Nat, j ≤ i ∧ u6 = .int .i64 (j : Int) ∧ Hid (∀ k' (s : ByteArray), k' < j → (seenA ats i)[k']? = some s → M3.eqB nm s = false) ∧ Below w2.heap.size w2 wr) (fun u6 _ => i - (intOf u6).toNat)
        case atStart => exact ⟨0, by omega, rfl, Lib.hid (fun k' s h => absurd h (by omega)), Below.refl _ _⟩
        case round =>
          obtain ⟨j, hj, rfl, hno, hbj⟩ := hrel
          have hbx3 := hbx2.below hbj hbx2.lt
          have q3 := hbx3.cell (i := 2) rfl
          have hb03 : Below w.heap.size w wr := hb02.trans (hbj.mono (by have := hb02.size; omega))
          have hz2 := hb02.size
          by_cases hji : j < i
          · obtain ⟨b', off', e0, hSb', d0, d1⟩ := (hat.below hS hb03).atA j (by omega)
            cases e0
            have c0'' := (hbj.cell (p := ⟨b, off + i * 2, none⟩) (by simp; omega)).trans c0'
            have hgj := hget.out j hji
            have hJ0 : (0 : Int) ≤ (j : Int) := by omega
            have hJ1 : (j : Int) < (ats.length : Int) := by omega
            generalize ats[j].name = nj at *
            replace hgj := Lib.hid hgj
            have heq := eqB_comm nm nj
            have hbd : Below w.heap.size w wr.drew := hb03.drew
            cases hc : (nj.toList == nm.toList)
            · rw [hc] at heq
              replace heq := Lib.hid heq
              go_wp2_with fail
              go_region_held3 (fun w' => w'.cell? ⟨w.heap.size, 2, none⟩ = some (.slice (some ⟨b, off, none⟩) ats.length cap) ∧ w'.cell? ⟨b, off + i * 2, none⟩ = some (.string nm) ∧ w'.cell? ⟨b, off + j * 2, none⟩ = some (.string nj))
                (first
                  | go_keep
                  | assumption)
                (first
                  | fail)
              go_wp2_with fail
              go_roundw
              case rel =>
                refine ⟨j + 1, by omega, by go_num, Lib.hid (fun k' s h1 h2 => ?_), hbj.drew⟩
                by_cases e : k' = j
                · subst e
                  rw [hgj.out] at h2
                  cases h2
                  exact heq.out
                · exact hno.out k' s (by omega) h2
              case measure => exact meas_nat hji
            · rw [hc] at heq
              have hany := any_at (p := M3.eqB nm) hgj.out heq
              rw [hany] at hna
              replace hna : Hid (M3.namesE [] ats = 5) := hna
              rw [hna.out] at hr
              replace hr : Hid (M3.elemE (.mk k n ats t ks) = 5) := hr
              replace heq := Lib.hid heq
              clear hany
              go_wp2_with fail
              go_region_held3 (fun w' => w'.cell? ⟨w.heap.size, 2, none⟩ = some (.slice (some ⟨b, off, none⟩) ats.length cap) ∧ w'.cell? ⟨b, off + i * 2, none⟩ = some (.string nm) ∧ w'.cell? ⟨b, off + j * 2, none⟩ = some (.string nj))
                (first
                  | go_keep
                  | assumption)
                (first
                  | fail)
              go_wp2_with fail
              go_ret
              exact ⟨by rw [hr.out]; rfl, hbd⟩
          · obtain rfl : j = i := by omega
            have hany : (seenA ats j).any (M3.eqB nm) = false := by
              rw [List.any_eq_false]
              intro s hs
              obtain ⟨k', hk', e⟩ := List.mem_iff_getElem.1 hs
              rw [hsl.out] at hk'
              have := hno.out k' s hk' (by rw [List.getElem?_eq_getElem (by rw [hsl.out]; exact hk'), e])
              simpa using this
            rw [hany] at hna
            replace hna : Hid (M3.namesE [] ats = M3.namesE (seenA ats (j + 1)) (ats.drop (j + 1))) := hna
            clear hany hno
            go_wp2_with fail
            go_roundw
            case rel => exact ⟨j + 1, by omega, by go_num, hna, hb03, hbx3⟩
            case measure => exact meas_nat hlt
    · obtain rfl : i = ats.length := by omega
      have hv0 : M3.namesE [] ats = 0 := by rw [hv.out, List.drop_length]; rfl
      rw [hv0, if_pos rfl] at hr
      have hvv : Hid (M3.valuesE ats = M3.valuesE (ats.drop 0)) := rfl
      clear hv hv0
      obtain ⟨wo, rfl⟩ : ∃ wo : World, wo = wr := ⟨_, rfl⟩
      go_wp2_with fail
      go_loopw [7, 8] (fun u7 _ wr => ∃ i : Nat, i ≤ ats.length ∧ u7 = .int .i64 (i : Int) ∧ Hid (M3.valuesE ats = M3.valuesE (ats.drop i)) ∧ Below w.heap.size w wr ∧ Box wr w.heap.size 32 [.int .i64 k, .string n, .slice a ats.length cap, .string t, .slice a2 ks.length cap2]) (fun u7 _ _ => ats.length - (intOf u7).toNat)
      case atStart => exact ⟨0, by omega, rfl, hvv, hb, hbx⟩
      case round =>
        obtain ⟨i, hi, rfl, hv, hb, hbx⟩ := hrel
        clear hvv
        have hz := hbx.lt
        have q2 := hbx.cell (i := 2) rfl
        by_cases hlt : i < ats.length
        · obtain ⟨b, off, rfl, hSb, c0, c1⟩ := (hat.below hS hb).atA i hlt
          have hva := hv.out.trans (values_at ats i hlt)
          have hfa := (hf3.out _ (List.getElem_mem hlt)).2
          have hA := Lib.hid (fun W => ref01Is ats[i].value W hfa)
          generalize ats[i].value = vl at *
          generalize M1.isB vl.data.toList = p at *
          have hI0 : (0 : Int) ≤ (i : Int) := by omega
          have hI1 : (i : Int) < (ats.length : Int) := by omega
          clear hv
          cases p
          · replace hva : Hid (M3.valuesE ats = 2) := hva
            go_wp2_with fail
            refine (hA.out _).mono ?_
            rintro e w2 ⟨rfl, hb2⟩
            go_wp2
            go_ret
            exact ⟨by rw [hr.out, hva.out]; rfl, hb.trans (hb2.mono (by omega))⟩
          · replace hva : Hid (M3.valuesE ats = M3.valuesE (ats.drop (i + 1))) := hva
            go_wp2_with fail
            refine (hA.out _).mono ?_
            rintro e w2 ⟨rfl, hb2⟩
            have hbx2 := hbx.below hb2 hz
            clear hA
            go_wp2_with fail
            go_roundw
            case rel => exact ⟨i + 1, by omega, by go_num, hva, hb.trans (hb2.mono (by omega)), hbx2⟩
            case measure => exact meas_nat hlt
        · obtain rfl : i = ats.length := by omega
          have hv0 : Hid (M3.valuesE ats = 0) := by show _ = _; rw [hv.out, List.drop_length]; rfl
          clear hv
          go_wp2_with fail
          go_ret
          exact ⟨by rw [hr.out, hv0.out]; rfl, hb⟩

end Go.Proofs.Ytbnfaijkmbgpmaa

/- The reference of layer 3: which nodes may be, walked on. -/
namespace Go.Proofs.Ytbnfaijkmbgpmaa
open Go.RowKit

set_option maxHeartbeats 8000000 in
set_option maxRecDepth 100000 in
theorem ref03One (S : Nat → Prop) (x : Nd) (va vk : Value) (p : Bool) (w : World) (hS : ∀ b, S b → b < w.heap.size) (hx : RepV S w x va vk) (hf : Fit1 x) :
    Calls Try.prog 59 #[x.val va vk, .bool p] w (IntPost (M3.oneE x p) w) := by
  have hE := Lib.hid (fun W h1 h2 => ref03Element S x va vk W h1 h2 hf)
  obtain ⟨hat, hkd⟩ := hx
  have hx0 : RepV S w x va vk := ⟨hat, hkd⟩
  obtain ⟨a, cap, rfl⟩ := hat.slice
  obtain ⟨a2, cap2, rfl⟩ := hkd.slice
  cases x with | mk k n ats t ks =>
  obtain ⟨hf1, hf2, hf3, _⟩ := hf
  simp only [Nd.val, Nd.kind, Nd.name, Nd.text, Nd.attrs, Nd.kids] at *
  have hb0 := (Below.refl w.heap.size w).alloc (Nat.le_refl _) (.cells #[.int .i64 k, .string n, .slice a ats.length cap, .string t, .slice a2 ks.length cap2] 32)
  have hbx0 := Box.new w 32 [.int .i64 k, .string n, .slice a ats.length cap, .string t, .slice a2 ks.length cap2]
  have hxb := Lib.hid (hx0.below hS hb0)
  have hSb := Lib.hid (show ∀ b, S b → b < (w.alloc (.cells #[.int .i64 k, .string n, .slice a ats.length cap, .string t, .slice a2 ks.length cap2] 32)).heap.size from fun b h => by have := hS b h; simp; omega)
  have hI := Lib.hid (fun W => ref01Is t W hf2)
  have hr : Hid (M3.oneE (.mk k n ats t ks) p = if k = 1 then M3.elemE (.mk k n ats t ks) else if k = 2 then (if (n.toList.isEmpty && ats.isEmpty && ks.isEmpty) then (if M1.isB t.data.toList && !(t.toList.isEmpty || p) then 0 else 2) else 7) else if k = 3 then (if (n.toList.isEmpty && ats.isEmpty && ks.isEmpty) then (if M1.isB t.data.toList then 0 else 2) else 7) else 7) := rfl
  clear hat hkd hx0 hS hf3
  by_cases h1 : k = 1
  · subst h1
    rw [if_pos rfl] at hr
    clear hI
    go_enter Try.func59, Try.ntmps59
    go_wp2_with fail
    refine (hE.out _ hSb.out hxb.out).mono ?_
    rintro e w1 ⟨rfl, hb1⟩
    go_wp2
    go_ret
    exact ⟨by rw [hr.out]; rfl, hb0.trans (hb1.mono (by simp))⟩
  rw [if_neg h1] at hr
  have h1b : (k == 1) = false := by simpa using h1
  clear hE hxb hSb
  by_cases h23 : k = 2 ∨ k = 3
  · generalize M1.isB t.data.toList = q at *
    have seven : (n.toList.isEmpty && ats.isEmpty && ks.isEmpty) = false → Hid (M3.oneE (.mk k n ats t ks) p = 7) := by
      intro h
      show _ = _
      rw [hr.out, h]
      rcases h23 with rfl | rfl <;> simp
    have h2b : (k != 2) = !(k == 2) := rfl
    have h3b : (k != 3) = !(k == 3) := rfl
    cases hne : n.toList.isEmpty
    · have hr2 := seven (by rw [hne]; rfl)
      clear hr seven h2b h3b
      rcases h23 with rfl | rfl
      all_goals
        go_enter Try.func59, Try.ntmps59
        go_wp2
        go_ret
        exact ⟨by rw [hr2.out]; rfl, hb0⟩
    · cases ats with
      | cons a0 r0 =>
        have hr2 := seven (by simp)
        have hl1 : (0 : Int) < ((a0 :: r0).length : Int) := by simp
        generalize (a0 :: r0).length = m at *
        clear hr seven h2b h3b hb0 hbx0
        rcases h23 with rfl | rfl
        all_goals
          go_enter Try.func59, Try.ntmps59
          go_wp2
          go_ret
          exact ⟨by rw [hr2.out]; rfl, (Below.refl _ _).alloc (Nat.le_refl _) _⟩
      | nil =>
        simp only [List.length_nil] at hb0 hbx0
        cases ks with
        | cons a0 r0 =>
          have hr2 := seven (by simp)
          have hl1 : (0 : Int) < ((a0 :: r0).length : Int) := by simp
          generalize (a0 :: r0).length = m at *
          clear hr seven h2b h3b hb0 hbx0
          simp only [List.length_nil]
          rcases h23 with rfl | rfl
          all_goals
            go_enter Try.func59, Try.ntmps59
            go_wp2
            go_ret
            exact ⟨by rw [hr2.out]; rfl, (Below.refl _ _).alloc (Nat.le_refl _) _⟩
        | nil =>
          simp only [List.length_nil] at hb0 hbx0
          simp only [List.length_nil]
          clear seven h2b h3b
          rw [hne] at hr
          rcases h23 with rfl | rfl
          · replace hr : M3.oneE (.mk 2 n [] t []) p = if (q && !(t.toList.isEmpty || p)) then 0 else 2 := hr.out
            cases hte : t.toList.isEmpty <;> cases q <;> cases p
            all_goals
              rw [hte] at hr
              replace hr := Lib.hid hr
              go_enter Try.func59, Try.ntmps59
              go_wp2_with fail
              refine (hI.out _).mono ?_
              rintro e w1 ⟨rfl, hb1⟩
              have hbx1 := hbx0.below hb1 (by simp)
              have c0 := hbx1.cell (i := 0) rfl
              have c3 := hbx1.cell (i := 3) rfl
              go_wp2
              go_ret
              exact ⟨by rw [hr.out]; rfl, hb0.trans (hb1.mono (by simp))⟩
          · replace hr : M3.oneE (.mk 3 n [] t []) p = if q then 0 else 2 := hr.out
            cases q
            all_goals
              replace hr := Lib.hid hr
              go_enter Try.func59, Try.ntmps59
              go_wp2_with fail
              refine (hI.out _).mono ?_
              rintro e w1 ⟨rfl, hb1⟩
              have hbx1 := hbx0.below hb1 (by simp)
              have c0 := hbx1.cell (i := 0) rfl
              have c3 := hbx1.cell (i := 3) rfl
              go_wp2
              go_ret
              exact ⟨by rw [hr.out]; rfl, hb0.trans (hb1.mono (by simp))⟩
  · rw [if_neg (by omega), if_neg (by omega)] at hr
    have h2b : (k != 2) = true := by simp [bne]; omega
    have h3b : (k != 3) = true := by simp [bne]; omega
    clear h1 h23
    go_enter Try.func59, Try.ntmps59
    go_wp2
    go_ret
    exact ⟨by rw [hr.out]; rfl, hb0⟩

end Go.Proofs.Ytbnfaijkmbgpmaa

/- The reference of layer 3: May. -/
namespace Go.Proofs.Ytbnfaijkmbgpmaa
open Go.RowKit

def behind (l : List Nd) : Nat → Bool
  | 0 => false
  | i + 1 => match l[i]? with | some x => x.kind == 2 | none => false

theorem behind_succ (l : List Nd) (i : Nat) (h : i < l.length) : behind l (i + 1) = (l[i].kind == 2) := by
  show (match l[i]? with | some x => x.kind == 2 | none => false) = _
  rw [List.getElem?_eq_getElem h]

theorem may_drop (l : List Nd) (i : Nat) (h : i < l.length) : M3.mayE (behind l i) (l.drop i) = if M3.oneE l[i] (behind l i) ≠ 0 then M3.oneE l[i] (behind l i) else if M3.mayE false l[i].kids ≠ 0 then M3.mayE false l[i].kids else M3.mayE (behind l (i + 1)) (l.drop (i + 1)) := by
  rw [List.drop_eq_getElem_cons h, M3.mayE_cons, behind_succ l i h]

theorem wpStill_skip {P : Program} {ops : Array Oper} {w : World} {Q : Act → Prop} {a : Act} {o : Oper} {rest : List Oper} (hw : Region.wanted o (yielded ops a.tmps) = false)
    (h : ∀ K : Act → Prop, (∀ a, wpStill P ops w Q rest a → K a) → K (a.put o.dst undef)) : wpStill P ops w Q (o :: rest) a := by
  unfold wpStill
  rw [if_neg (by simp [hw])]
  exact h _ (fun _ h => h)

set_option maxHeartbeats 8000000 in
set_option maxRecDepth 100000 in
theorem ref03May (wt : Nat) : ∀ (S : Nat → Prop) (v : Value) (l : List Nd) (w : World), M3.weight l < wt → FitN l → (∀ b, S b → b < w.heap.size) → RepN S w v l →
    Calls Try.prog 38 #[v] w (IntPost (M3.mayE false l) w) := by
  induction wt with
  | zero => intro S v l w h; omega
  | succ wt ih =>
  intro S v l w hwt hfit hS hr
  obtain ⟨a, cap, rfl⟩ := hr.slice
  obtain ⟨_, hlc, hcm⟩ := hr.len
  replace ih := Lib.hid ih
  have h0 : Hid (M3.mayE false l = M3.mayE (behind l 0) (l.drop 0)) := rfl
  replace hfit := Lib.hid hfit
  go_enter Try.func38, Try.ntmps38
  go_wp2_with fail
  go_loopw [3, 4] (fun u3 _ wr => ∃ i : Nat, i ≤ l.length ∧ u3 = .int .i64 (i : Int) ∧ Hid (M3.mayE false l = M3.mayE (behind l i) (l.drop i)) ∧ Below w.heap.size w wr) (fun u3 _ _ => l.length - (intOf u3).toNat)
  case atStart => exact ⟨0, by omega, rfl, h0, Below.refl _ _⟩
  case round =>
    obtain ⟨i, hi, rfl, hv, hb⟩ := hrel
    have hz := hb.size
    by_cases hlt : i < l.length
    · have hr1 := hr.below hS hb
      obtain ⟨b, off, va, vk, rfl, hSb, c0, c1, c2, c3, c4, hrv⟩ := hr1.at_ i hlt
      have hbl := hS b hSb
      have hmd := hv.out.trans (may_drop l i hlt)
      obtain ⟨hf1, hf2⟩ := fitN_iff.1 hfit.out _ (List.getElem_mem hlt)
      have hwk := weight_mem (List.getElem_mem hlt)
      have hprev : ∀ _ : 0 < i, wr.cell? ⟨b, off + (i - 1) * 5, none⟩ = some (.int .i64 l[i - 1].kind) ∧ behind l i = (l[i - 1].kind == 2) := by
        intro h
        obtain ⟨b', off', va', vk', e, _, d0, _⟩ := hr1.at_ (i - 1) (by omega)
        cases e
        refine ⟨d0, ?_⟩
        have := behind_succ l (i - 1) (by omega)
        rwa [show i - 1 + 1 = i by omega] at this
      generalize l[i] = x at *
      have hrv0 := hrv
      obtain ⟨a1, e1, rfl⟩ := hrv.at_.slice
      obtain ⟨a2, e2, rfl⟩ := hrv.kids.slice
      have hOne := Lib.hid (fun p => ref03One S x _ _ p wr.drew (fun b h => by have := hS b h; simp; omega) (hrv0.keep (fun _ _ => rfl)) hf1)
      have hih := Lib.hid (fun W (hW : Below wr.heap.size wr W) => ih.out S (.slice a2 x.kids.length e2) x.kids W (by omega) hf2 (fun b h => by have := hS b h; have := hW.size; omega) (RepN.below (w := wr) (B := wr.heap.size) hrv.kids (fun b h => by have := hS b h; omega) hW))
      generalize hrest : M3.mayE (behind l (i + 1)) (l.drop (i + 1)) = rest at *
      replace hrest := Lib.hid hrest
      have hI0 : (0 : Int) ≤ (i : Int) := by omega
      have hI1 : (i : Int) < (l.length : Int) := by omega
      clear hv hr1 hrv0
      replace hmd := Lib.hid hmd
      by_cases hi0 : 0 < i
      · obtain ⟨d0, hbe⟩ := hprev hi0
        have hmd := hmd.out
        rw [hbe] at hmd
        have hi1 : (0 : Int) < (i : Int) := by omega
        have hj1 : (i : Int) - 1 = ((i - 1 : Nat) : Int) := by omega
        have hj2 : ((i - 1 : Nat) : Int) < (l.length : Int) := by omega
        have hj3 : (0 : Int) ≤ ((i - 1 : Nat) : Int) := by omega
        have hj5 : IntKind.i64.wrap ((i - 1 : Nat) : Int) = ((i - 1 : Nat) : Int) := IntWalk.i64_in _ ⟨by omega, by omega⟩
        have hj4 : i - 1 < l.length := by omega
        clear hprev
        generalize l[i - 1].kind = pk at *
        obtain ⟨j, hj⟩ : ∃ j, i - 1 = j := ⟨_, rfl⟩
        rw [hj] at d0 hj1 hj2 hj3 hj4 hj5
        clear hj
        generalize hpq : (pk == 2) = pq at *
        go_wp2_with fail
        go_still_tail 15, (by kernel_rfl)
        change wpList _ _ _ _ _ wr.drew
        go_wp2_with fail
        refine (hOne.out pq).mono ?_
        rintro e w2 ⟨rfl, hb2⟩
        have hbw2 : Below wr.heap.size wr w2 := ((Below.refl _ wr).drew).trans hb2
        have hz2 := hbw2.size
        have c4' := (hbw2.cell (p := ⟨b, off + i * 5 + 4, none⟩) (by simp; omega)).trans c4
        clear hOne c0 c1 c2 c3 c4
        generalize M3.oneE x pq = z at *
        by_cases hz1 : z = 0
        · have hz1b : (z == 0) = true := by simpa using hz1
          rw [hz1, if_neg (by simp)] at hmd
          replace hz1 := Lib.hid hz1
          have hk2 := Lib.hid (hih.out w2 hbw2)
          clear hih
          go_wp2_with fail
          refine hk2.out.mono ?_
          rintro e w3 ⟨rfl, hb3⟩
          have hbw3 : Below w.heap.size w w3 := (hb.trans (hbw2.mono hz)).trans (hb3.mono (by omega))
          clear hk2 c4'
          generalize M3.mayE false x.kids = y at *
          by_cases hy : y = 0
          · rw [hy, if_neg (by simp)] at hmd
            have hy1 : (y == 0) = true := by simpa using hy
            replace hy := Lib.hid hy
            go_wp2_with fail
            go_roundw
            case rel => exact ⟨i + 1, by omega, by go_num, by show _ = _; rw [hmd, hrest.out], hbw3⟩
            case measure => exact meas_nat hlt
          · rw [if_pos hy] at hmd
            have hy1 : (y == 0) = false := by simpa using hy
            replace hmd := Lib.hid hmd
            go_wp2_with fail
            go_ret
            exact ⟨by rw [hmd.out]; rfl, hbw3⟩
        · rw [if_pos hz1] at hmd
          have hz1b : (z == 0) = false := by simpa using hz1
          replace hmd := Lib.hid hmd
          clear hih
          go_wp2_with fail
          go_ret
          exact ⟨by rw [hmd.out]; rfl, hb.trans (hbw2.mono hz)⟩
      · clear hprev
        have hmd := hmd.out
        have hbe : behind l i = false := by
          have : i = 0 := by omega
          subst this; rfl
        rw [hbe] at hmd
        obtain ⟨q, hd3⟩ : ∃ q, decide (0 < i) = q := ⟨_, rfl⟩
        have hq2 : Hid (q = false) := by show _ = _; rw [← hd3]; exact decide_eq_false hi0
        replace hi0 := Lib.hid hi0
        go_wp2_with fail
        refine wp_region_still_tail 15 (by kernel_rfl) (by kernel_rfl) ?_
        simp only [List.take_succ_cons, List.take_zero, List.drop_succ_cons, List.drop_zero]
        iterate 7 still_step
        iterate 7
          refine wpStill_skip (by simp [Region.wanted, yielded, hq2.out]) (fun K hK => ?_)
          go_simp
          refine hK _ ?_
          clear hK K
        obtain rfl : q = false := hq2.out
        still_step
        refine wpStill_nil ?_
        change wpList _ _ _ _ _ wr.drew
        go_wp2_with fail
        refine (hOne.out false).mono ?_
        rintro e w2 ⟨rfl, hb2⟩
        have hbw2 : Below wr.heap.size wr w2 := ((Below.refl _ wr).drew).trans hb2
        have hz2 := hbw2.size
        have c4' := (hbw2.cell (p := ⟨b, off + i * 5 + 4, none⟩) (by simp; omega)).trans c4
        clear hOne c0 c1 c2 c3 c4
        generalize M3.oneE x false = z at *
        by_cases hz1 : z = 0
        · have hz1b : (z == 0) = true := by simpa using hz1
          rw [hz1, if_neg (by simp)] at hmd
          replace hz1 := Lib.hid hz1
          have hk2 := Lib.hid (hih.out w2 hbw2)
          clear hih
          go_wp2_with fail
          refine hk2.out.mono ?_
          rintro e w3 ⟨rfl, hb3⟩
          have hbw3 : Below w.heap.size w w3 := (hb.trans (hbw2.mono hz)).trans (hb3.mono (by omega))
          clear hk2 c4'
          generalize M3.mayE false x.kids = y at *
          by_cases hy : y = 0
          · rw [hy, if_neg (by simp)] at hmd
            have hy1 : (y == 0) = true := by simpa using hy
            replace hy := Lib.hid hy
            go_wp2_with fail
            go_roundw
            case rel => exact ⟨i + 1, by omega, by go_num, by show _ = _; rw [hmd, hrest.out], hbw3⟩
            case measure => exact meas_nat hlt
          · rw [if_pos hy] at hmd
            have hy1 : (y == 0) = false := by simpa using hy
            replace hmd := Lib.hid hmd
            go_wp2_with fail
            go_ret
            exact ⟨by rw [hmd.out]; rfl, hbw3⟩
        · rw [if_pos hz1] at hmd
          have hz1b : (z == 0) = false := by simpa using hz1
          replace hmd := Lib.hid hmd
          clear hih
          go_wp2_with fail
          go_ret
          exact ⟨by rw [hmd.out]; rfl, hb.trans (hbw2.mono hz)⟩
    · obtain rfl : i = l.length := by omega
      rw [List.drop_length, M3.mayE_nil] at hv
      go_wp2_with fail
      go_ret
      exact ⟨by rw [hv.out]; rfl, hb⟩

end Go.Proofs.Ytbnfaijkmbgpmaa

/- Layer 3 by plain definitions: nodes that may be, made of any. No program in it. -/
namespace Go.Proofs.Ytbnfaijkmbgpmaa
namespace M3

theorem nilB_empty : nilB ⟨#[]⟩ = true := nilB_iff.2 rfl
def wordsL : List ByteArray := [⟨#[97]⟩, ⟨#[98]⟩, ⟨#[112]⟩, ⟨#[117, 108]⟩, ⟨#[108, 105]⟩, ⟨#[98, 114]⟩, ⟨#[105, 109, 103]⟩, ⟨#[100, 105, 118]⟩, ⟨#[115, 99, 114, 105, 112, 116]⟩, ⟨#[120, 45, 121]⟩]
def attrsL : List ByteArray := [⟨#[105, 100]⟩, ⟨#[104, 114, 101, 102]⟩, ⟨#[116, 105, 116, 108, 101]⟩, ⟨#[100, 97, 116, 97, 45, 97]⟩, ⟨#[111, 110, 99, 108, 105, 99, 107]⟩]
def sumB (l : List UInt8) : Nat := (l.map UInt8.toNat).sum
def wordN (s : ByteArray) : ByteArray := if namedB s.data.toList then s else wordsL.getD (sumB s.data.toList % 10) ⟨#[]⟩
def attrN (s : ByteArray) : ByteArray := if attributedB s.data.toList then s else attrsL.getD (s.size % 5) ⟨#[]⟩
def rightN (s : ByteArray) : ByteArray := ⟨(M1.right s.data.toList).toArray⟩
theorem rightN_isB (s : ByteArray) : M1.isB (rightN s).data.toList = true := M1.isB_right _
theorem rightN_size (s : ByteArray) : (rightN s).size ≤ 4 * s.size := M1.right_len s.data.toList
theorem isB_lo (l : List UInt8) (h : ∀ c ∈ l, c.toNat < 128 ∧ c.toNat ≠ 0 ∧ c.toNat ≠ 13) : M1.isB l = true := by
  induction l with
  | nil => exact M1.isB_nil
  | cons c t ih =>
    obtain ⟨h1, h2, h3⟩ := h c (by simp)
    rw [M1.isB_step _ (by simp)]
    have hd : M1.dec (c :: t) = (c.toNat, 1) := M2.dec_lo c t h1
    rw [hd]
    have h4 : c.toNat ≠ 65533 := by omega
    simp [h2, h3, h4]
    exact ih (fun x hx => h x (by simp [hx]))
theorem wordsL_ok : ∀ i, i < 10 → namedB (wordsL.getD i ⟨#[]⟩).data.toList = true ∧ (wordsL.getD i ⟨#[]⟩).size ≤ 6 := by decide
theorem attrsL_low : ∀ i, i < 5 → ((attrsL.getD i ⟨#[]⟩).data.toList.all fun c => decide (c.toNat < 128 ∧ c.toNat ≠ 0 ∧ c.toNat ≠ 13)) = true ∧ !(attrsL.getD i ⟨#[]⟩).data.toList.isEmpty = true ∧ (attrsL.getD i ⟨#[]⟩).data.toList.any capB = false ∧ (attrsL.getD i ⟨#[]⟩).data.toList.any badB = false ∧ (attrsL.getD i ⟨#[]⟩).size ≤ 7 := by decide
theorem wordN_ok (s : ByteArray) : namedB (wordN s).data.toList = true := by
  unfold wordN
  split
  · assumption
  · exact (wordsL_ok _ (Nat.mod_lt _ (by decide))).1
theorem wordN_size (s : ByteArray) (b : Nat) (h : s.size ≤ b) (h6 : 6 ≤ b) : (wordN s).size ≤ b := by
  unfold wordN
  split
  · exact h
  · have := (wordsL_ok _ (Nat.mod_lt (sumB s.data.toList) (by decide : 0 < 10))).2; omega
theorem attrN_ok (s : ByteArray) : attributedB (attrN s).data.toList = true := by
  unfold attrN
  split
  · assumption
  · obtain ⟨h1, h2, h3, h4, _⟩ := attrsL_low _ (Nat.mod_lt s.size (by decide : 0 < 5))
    unfold attributedB
    have h5 : M1.isB (attrsL.getD (s.size % 5) ⟨#[]⟩).data.toList = true := isB_lo _ (fun c hc => by have := List.all_eq_true.1 h1 c hc; simpa using this)
    rw [h5, h3, h4]
    simpa using h2
theorem attrN_size (s : ByteArray) (b : Nat) (h : s.size ≤ b) (h7 : 7 ≤ b) : (attrN s).size ≤ b := by
  unfold attrN
  split
  · exact h
  · have := (attrsL_low _ (Nat.mod_lt s.size (by decide : 0 < 5))).2.2.2.2; omega

/-- Attributes: of one name the first. -/
def addA (acc : List Att) (a : Att) : List Att := if (valueOf (attrN a.name) acc).isSome then acc else acc ++ [⟨attrN a.name, rightN a.value⟩]
def goodA (l : List Att) : List Att := l.foldl addA []
theorem goodA_snoc (l : List Att) (a : Att) : goodA (l ++ [a]) = addA (goodA l) a := by simp [goodA]
def kindN (k : Int) : Int := if k < 1 ∨ 3 < k then 1 else k
def goodN : List Nd → List Nd
  | [] => []
  | .mk k n a t ks :: r => push' (if kindN k = 1 then .mk 1 (wordN n) (goodA a) ⟨#[]⟩ (merge (goodN ks)) else .mk (kindN k) ⟨#[]⟩ [] (rightN t) []) (goodN r)
termination_by l => SizeOf.sizeOf l
where push' (x : Nd) (r : List Nd) : List Nd := x :: r
theorem goodN_nil : goodN [] = [] := by rw [goodN]
def good1 (x : Nd) : Nd := if kindN x.kind = 1 then .mk 1 (wordN x.name) (goodA x.attrs) ⟨#[]⟩ (merge (goodN x.kids)) else .mk (kindN x.kind) ⟨#[]⟩ [] (rightN x.text) []
theorem good1_mk (k : Int) (n : ByteArray) (a : List Att) (t : ByteArray) (ks : List Nd) : good1 (.mk k n a t ks) = if kindN k = 1 then .mk 1 (wordN n) (goodA a) ⟨#[]⟩ (merge (goodN ks)) else .mk (kindN k) ⟨#[]⟩ [] (rightN t) [] := rfl
theorem goodN_cons (x : Nd) (r : List Nd) : goodN (x :: r) = good1 x :: goodN r := by cases x; rw [goodN]; rfl
theorem goodN_map (l : List Nd) : goodN l = l.map good1 := by
  induction l with
  | nil => exact goodN_nil
  | cons x r ih => rw [goodN_cons, ih]; rfl
/-- Nodes that may be, made of any. -/
def good (l : List Nd) : List Nd := merge (goodN l)

theorem addA_len (acc : List Att) (a : Att) : (addA acc a).length ≤ acc.length + 1 := by unfold addA; split <;> simp
theorem goodA_len (l : List Att) : (goodA l).length ≤ l.length := by
  have key : ∀ (l acc : List Att), (l.foldl addA acc).length ≤ acc.length + l.length := by
    intro l
    induction l with
    | nil => intro acc; exact Nat.le_refl _
    | cons a r ih => intro acc; have h1 := ih (addA acc a); have h2 := addA_len acc a; rw [List.foldl_cons, List.length_cons]; omega
  have := key l []
  simpa [goodA] using this
theorem valueOf_none (nm : ByteArray) (l : List Att) : valueOf nm l = none ↔ ∀ a ∈ l, eqB a.name nm = false := by
  induction l with
  | nil => simp [valueOf]
  | cons a r ih =>
    rw [valueOf]
    cases h : eqB a.name nm
    · simp [ih, h]
    · simp [h]
/-- What each attribute that is put keeps. -/
theorem goodA_all {P : Att → Prop} (l : List Att) (h : ∀ a ∈ l, P ⟨attrN a.name, rightN a.value⟩) : ∀ a ∈ goodA l, P a := by
  have key : ∀ (l acc : List Att), (∀ a ∈ l, P ⟨attrN a.name, rightN a.value⟩) → (∀ a ∈ acc, P a) → ∀ a ∈ l.foldl addA acc, P a := by
    intro l
    induction l with
    | nil => intro acc _ h; exact h
    | cons a r ih =>
      intro acc h1 h2
      rw [List.foldl_cons]
      refine ih _ (fun x hx => h1 x (by simp [hx])) ?_
      unfold addA
      split
      · exact h2
      · intro x hx
        rcases List.mem_append.1 hx with hx | hx
        · exact h2 x hx
        · simp at hx; subst hx; exact h1 a (by simp)
  exact key l [] h (fun a ha => by cases ha)
def Uniq : List Att → Prop
  | [] => True
  | a :: r => (∀ b ∈ r, eqB b.name a.name = false) ∧ Uniq r
theorem uniq_snoc {l : List Att} {a : Att} (h : Uniq l) (ha : ∀ b ∈ l, eqB b.name a.name = false) : Uniq (l ++ [a]) := by
  induction l with
  | nil => exact ⟨(fun b hb => by cases hb), trivial⟩
  | cons b r ih =>
    refine ⟨fun c hc => ?_, ih h.2 (fun c hc => ha c (by simp [hc]))⟩
    rcases List.mem_append.1 hc with hc | hc
    · exact h.1 c hc
    · simp at hc; subst hc
      have := ha b (by simp)
      rw [eqB_false] at this ⊢
      exact fun e => this e.symm
theorem goodA_uniq (l : List Att) : Uniq (goodA l) := by
  have key : ∀ (l acc : List Att), Uniq acc → Uniq (l.foldl addA acc) := by
    intro l
    induction l with
    | nil => intro acc h; exact h
    | cons a r ih =>
      intro acc h
      rw [List.foldl_cons]
      refine ih _ ?_
      unfold addA
      split
      · exact h
      · rename_i hn
        have hn' : valueOf (attrN a.name) acc = none := by
          cases hv : valueOf (attrN a.name) acc with
          | none => rfl
          | some _ => rw [hv] at hn; simp at hn
        exact uniq_snoc h ((valueOf_none _ _).1 hn')
  exact key l [] trivial
theorem names_ok (l : List Att) : ∀ seen : List ByteArray, (∀ a ∈ l, attributedB a.name.data.toList = true) → Uniq l → (∀ a ∈ l, ∀ s ∈ seen, eqB a.name s = false) → namesE seen l = 0 := by
  induction l with
  | nil => intro seen _ _ _; rfl
  | cons a r ih =>
    intro seen h1 h2 h3
    have hs : seen.any (eqB a.name) = false := by
      rw [List.any_eq_false]
      intro s hs
      simpa using h3 a (by simp) s hs
    rw [namesE, h1 a (by simp), if_pos rfl, hs, if_neg (by simp)]
    refine ih _ (fun b hb => h1 b (by simp [hb])) h2.2 (fun b hb s hs => ?_)
    rcases List.mem_append.1 hs with hs | hs
    · exact h3 b (by simp [hb]) s hs
    · simp at hs; subst hs; exact h2.1 b hb
theorem values_ok (l : List Att) (h : ∀ a ∈ l, M1.isB a.value.data.toList = true) : valuesE l = 0 := by
  induction l with
  | nil => rfl
  | cons a r ih => rw [valuesE, h a (by simp), if_pos rfl, ih (fun b hb => h b (by simp [hb]))]
theorem kindN_in (k : Int) : kindN k = 1 ∨ kindN k = 2 ∨ kindN k = 3 := by unfold kindN; split <;> omega
theorem good_ok (l : List Nd) : ∀ x ∈ goodN l, okP x := by
  induction l using Nd.ind with
  | h0 => intro x hx; rw [goodN_nil] at hx; cases hx
  | h1 k n at_ t ks r ih1 ih2 =>
    intro x hx
    rw [goodN_cons] at hx
    rcases List.mem_cons.1 hx with rfl | hx
    · rw [good1_mk]
      by_cases h1 : kindN k = 1
      · rw [if_pos h1]
        have hk : isText (.mk 1 (wordN n) (goodA at_) ⟨#[]⟩ (merge (goodN ks))) = false := rfl
        unfold okP
        rw [hk, if_neg (by simp)]
        refine ⟨?_, may_merge _ ih1⟩
        show elemE _ = 0
        show (if nilB ⟨#[]⟩ = true then (if namedB (wordN n).data.toList = true then (if namesE [] (goodA at_) = 0 then valuesE (goodA at_) else namesE [] (goodA at_)) else 4) else 7) = (0 : Int)
        rw [nilB_empty, wordN_ok, names_ok _ [] (goodA_all at_ (fun a _ => attrN_ok _)) (goodA_uniq _) (fun _ _ s hs => by cases hs), values_ok _ (goodA_all at_ (fun a _ => rightN_isB _))]
        rfl
      · rw [if_neg h1]
        rcases kindN_in k with h | h | h
        · exact absurd h h1
        · rw [h]
          exact ⟨by show (nilB ⟨#[]⟩ && ([] : List Att).isEmpty && ([] : List Nd).isEmpty) = true; rw [nilB_empty]; rfl, rightN_isB t⟩
        · rw [h]
          refine ⟨?_, mayE_nil _⟩
          show (if (nilB ⟨#[]⟩ && ([] : List Att).isEmpty && ([] : List Nd).isEmpty) = true then (if M1.isB (rightN t).data.toList = true then (0 : Int) else 2) else 7) = 0
          rw [nilB_empty, rightN_isB]; rfl
    · exact ih2 x hx
theorem good_may (l : List Nd) : mayE false (good l) = 0 := may_merge _ (good_ok l)
end M3
end Go.Proofs.Ytbnfaijkmbgpmaa

/- The reference of layer 3: an element's name, an attribute's name, of any text. -/
namespace Go.Proofs.Ytbnfaijkmbgpmaa
open Go.RowKit

theorem sumB_succ (l : List UInt8) (k : Nat) (h : k < l.length) : M3.sumB (l.take (k + 1)) = M3.sumB (l.take k) + l[k].toNat := by
  unfold M3.sumB
  rw [List.take_succ_eq_append_getElem h, List.map_append, List.sum_append]
  simp

theorem sumB_le (l : List UInt8) : M3.sumB l ≤ 255 * l.length := by
  unfold M3.sumB
  induction l with
  | nil => simp
  | cons c r ih => simp only [List.map_cons, List.sum_cons, List.length_cons]; have := c.toNat_lt; omega

def StrPost (s : ByteArray) (w : World) (e : Ending) (w' : World) : Prop := e = .returned (.string s) ∧ Below w.heap.size w w'

set_option maxHeartbeats 4000000 in
set_option maxRecDepth 100000 in
theorem ref03Word (s : ByteArray) (w : World) (hs : s.size ≤ 1073741824) : Calls Try.prog 49 #[.string s] w (StrPost (M3.wordN s) w) := by
  have hN := Lib.hid (fun W => ref03Named s W (by omega))
  have hw : Hid (M3.wordN s = if M3.namedB s.data.toList then s else M3.wordsL.getD (M3.sumB s.data.toList % 10) ⟨#[]⟩) := rfl
  generalize M3.namedB s.data.toList = p at *
  have hbx := Box.new w 9 (M3.wordsL.map Value.string)
  have hb0 : Below w.heap.size w (w.alloc (.cells (M3.wordsL.map Value.string).toArray 9)) := (Below.refl _ _).alloc (Nat.le_refl _) _
  have hlen : s.data.toList.length = s.size := rfl
  have hle := sumB_le s.data.toList
  go_enter Try.func49, Try.ntmps49
  go_wp2_with fail
  obtain ⟨W0, hW0⟩ : ∃ W0, w.alloc (.cells (M3.wordsL.map Value.string).toArray 9) = W0 := ⟨_, rfl⟩
  rw [hW0] at hbx hb0
  change w.alloc (.cells #[.string ⟨#[97]⟩, .string ⟨#[98]⟩, .string ⟨#[112]⟩, .string ⟨#[117, 108]⟩, .string ⟨#[108, 105]⟩, .string ⟨#[98, 114]⟩, .string ⟨#[105, 109, 103]⟩, .string ⟨#[100, 105, 118]⟩, .string ⟨#[115, 99, 114, 105, 112, 116]⟩, .string ⟨#[120, 45, 121]⟩] 9) = W0 at hW0
  rw [hW0]
  clear hW0
  go_loop [4, 5] (fun u4 u5 => ∃ k : Nat, k ≤ s.size ∧ u5 = .int .i64 (k : Int) ∧ u4 = .int .i64 (M3.sumB (s.data.toList.take k) : Int)) (fun _ u5 => s.size - (intOf u5).toNat)
  case atStart => exact ⟨0, by omega, rfl, by simp [M3.sumB]⟩
  case round =>
    obtain ⟨k, hk, rfl, rfl⟩ := hrel
    have hl2 := sumB_le (s.data.toList.take k)
    have hl3 : (s.data.toList.take k).length ≤ k := List.length_take_le _ _
    by_cases hlt : k < s.size
    · have hsu := sumB_succ s.data.toList k hlt
      have hsu2 : Hid (M3.sumB (s.data.toList.take (k + 1)) = M3.sumB (s.data.toList.take k) + s[k].toNat) := hsu
      clear hsu
      have hb := s[k].toNat_lt
      generalize M3.sumB (s.data.toList.take k) = m at *
      go_wp2_with fail
      go_round
      case rel => exact ⟨k + 1, by omega, by go_num, by rw [hsu2.out]; go_num⟩
      case measure => exact meas_nat hlt
    · obtain rfl : k = s.size := by omega
      rw [List.take_of_length_le (show s.data.toList.length ≤ s.size from Nat.le_refl _)] at *
      generalize M3.sumB s.data.toList = m at *
      cases p
      · replace hw : Hid (M3.wordN s = M3.wordsL.getD (m % 10) ⟨#[]⟩) := hw
        go_wp2_with fail
        refine (hN.out _).mono ?_
        rintro e w1 ⟨rfl, rfl⟩
        have hm10 : m % 10 < 10 := Nat.mod_lt _ (by decide)
        have hcell := hbx.cell (i := m % 10) (v := .string (M3.wordsL.getD (m % 10) ⟨#[]⟩)) (by
          rw [List.getElem?_map, List.getElem?_eq_getElem (by exact hm10), List.getD_eq_getElem?_getD, List.getElem?_eq_getElem (by exact hm10)]; rfl)
        generalize M3.wordsL.getD (m % 10) ⟨#[]⟩ = ans at *
        have hm0 : (0 : Int) ≤ (m : Int) := by omega
        have hmi : (m : Int) % 10 = ((m % 10 : Nat) : Int) := by omega
        have hmj : ((m % 10 : Nat) : Int) < 10 := by omega
        generalize m % 10 = j at *
        go_wp2_with fail
        go_ret
        exact ⟨by rw [hw.out]; rfl, hb0⟩
      · replace hw : Hid (M3.wordN s = s) := hw
        go_wp2_with fail
        refine (hN.out _).mono ?_
        rintro e w1 ⟨rfl, rfl⟩
        go_wp2_with fail
        go_ret
        exact ⟨by rw [hw.out]; rfl, hb0⟩

set_option maxHeartbeats 4000000 in
set_option maxRecDepth 100000 in
theorem ref03Attribute (s : ByteArray) (w : World) (hs : s.size ≤ 268435456) : Calls Try.prog 50 #[.string s] w (StrPost (M3.attrN s) w) := by
  have hN := Lib.hid (ref03Attributed s w hs)
  have hw : Hid (M3.attrN s = if M3.attributedB s.data.toList then s else M3.attrsL.getD (s.size % 5) ⟨#[]⟩) := rfl
  generalize M3.attributedB s.data.toList = p at *
  go_enter Try.func50, Try.ntmps50
  go_wp2_with fail
  refine hN.out.mono ?_
  rintro e w1 ⟨rfl, hb1⟩
  cases p
  · replace hw : Hid (M3.attrN s = M3.attrsL.getD (s.size % 5) ⟨#[]⟩) := hw
    have hbx := Box.new w1 9 (M3.attrsL.map Value.string)
    have hb0 : Below w1.heap.size w1 (w1.alloc (.cells (M3.attrsL.map Value.string).toArray 9)) := (Below.refl _ _).alloc (Nat.le_refl _) _
    have hm10 : s.size % 5 < 5 := Nat.mod_lt _ (by decide)
    have hcell := hbx.cell (i := s.size % 5) (v := .string (M3.attrsL.getD (s.size % 5) ⟨#[]⟩)) (by
      rw [List.getElem?_map, List.getElem?_eq_getElem (by exact hm10), List.getD_eq_getElem?_getD, List.getElem?_eq_getElem (by exact hm10)]; rfl)
    have hbb : Below w.heap.size w (w1.alloc (.cells (M3.attrsL.map Value.string).toArray 9)) := bt hb1 hb0
    change (w1.alloc (.cells #[.string ⟨#[105, 100]⟩, .string ⟨#[104, 114, 101, 102]⟩, .string ⟨#[116, 105, 116, 108, 101]⟩, .string ⟨#[100, 97, 116, 97, 45, 97]⟩, .string ⟨#[111, 110, 99, 108, 105, 99, 107]⟩] 9)).cell? _ = _ at hcell
    change Below w.heap.size w (w1.alloc (.cells #[.string ⟨#[105, 100]⟩, .string ⟨#[104, 114, 101, 102]⟩, .string ⟨#[116, 105, 116, 108, 101]⟩, .string ⟨#[100, 97, 116, 97, 45, 97]⟩, .string ⟨#[111, 110, 99, 108, 105, 99, 107]⟩] 9)) at hbb
    generalize M3.attrsL.getD (s.size % 5) ⟨#[]⟩ = ans at *
    have hmi : (s.size : Int) % 5 = ((s.size % 5 : Nat) : Int) := by omega
    have hmj : ((s.size % 5 : Nat) : Int) < 5 := by omega
    have hmk : (0 : Int) ≤ (s.size : Int) := by omega
    generalize s.size % 5 = j at *
    clear hbx hb0
    go_wp2_with fail
    go_ret
    exact ⟨by rw [hw.out]; rfl, hbb⟩
  · replace hw : Hid (M3.attrN s = s) := hw
    go_wp2_with fail
    go_ret
    exact ⟨by rw [hw.out]; rfl, hb1⟩

end Go.Proofs.Ytbnfaijkmbgpmaa

/- Layer 3: values of attributes. -/
namespace Go.Proofs.Ytbnfaijkmbgpmaa
open Go.RowKit

set_option maxHeartbeats 1000000 in
set_option maxRecDepth 100000 in
theorem ref03Value (S : Nat → Prop) (x : Nd) (va vk : Value) (name : ByteArray) (w : World) (hS : ∀ b, S b → b < w.heap.size) (hat : Row S w 2 va x.attrs.length (cellsA x.attrs)) (hvk : ∃ a n c, vk = .slice a n c) :
    Calls Try.prog 51 #[x.val va vk, .string name] w fun e w' => e = .returned (valAns (M3.valueOf name x.attrs)) ∧ Below w.heap.size w w' := by
  obtain ⟨a, cap, rfl⟩ := hat.slice
  obtain ⟨_, hlc, hcm⟩ := hat.len
  obtain ⟨a2, n2, cap2, rfl⟩ := hvk
  cases x with | mk k n ats t ks =>
  simp only [Nd.attrs] at hat hlc hcm ⊢
  simp only [Nd.val, Nd.kind, Nd.name, Nd.text]
  have bx := Box.new w 32 [.int .i64 k, .string n, .slice a ats.length cap, .string t, .slice a2 n2 cap2]
  have hb := (Below.refl w.heap.size w).alloc (Nat.le_refl _) (.cells #[.int .i64 k, .string n, .slice a ats.length cap, .string t, .slice a2 n2 cap2] 32)
  have hat1 := hat.below hS hb
  have c2 := bx.cell (i := 2) rfl
  have hz : w.heap.size < (w.alloc (.cells #[.int .i64 k, .string n, .slice a ats.length cap, .string t, .slice a2 n2 cap2] 32)).heap.size := by simp
  go_enter Try.func51, Try.ntmps51
  change Box (w.alloc (.cells #[.int .i64 k, .string n, .slice a ats.length cap, .string t, .slice a2 n2 cap2] 32)) _ _ _ at bx
  change (w.alloc (.cells #[.int .i64 k, .string n, .slice a ats.length cap, .string t, .slice a2 n2 cap2] 32)).cell? _ = _ at c2
  go_wp2
  obtain ⟨W, hW⟩ : ∃ W, w.alloc (.cells #[.int .i64 k, .string n, .slice a ats.length cap, .string t, .slice a2 n2 cap2] 32) = W := ⟨_, rfl⟩
  rw [hW] at c2 hb hat1 hz ⊢
  clear hW bx hat
  go_loop [6] (fun u6 => ∃ i : Nat, i ≤ ats.length ∧ u6 = .int .i64 (i : Int) ∧ Hid (M3.valueOf name ats = M3.valueOf name (ats.drop i))) (fun u6 => ats.length - (intOf u6).toNat)
  case atStart => exact ⟨0, by omega, rfl, rfl⟩
  case round =>
    obtain ⟨i, hi, rfl, hv⟩ := hrel
    by_cases hlt : i < ats.length
    · obtain ⟨b, off, rfl, hSb, c0, c1⟩ := hat1.atA i hlt
      have hvd := M3.valueOf_drop name ats i hlt
      generalize ats[i].name = nm at *
      generalize ats[i].value = vl at *
      have hq : Hid (M3.eqB nm name = (nm.toList == name.toList)) := rfl
      cases he : (nm.toList == name.toList)
      · rw [hq.out, he] at hvd
        replace hvd := Lib.hid (hv.out.trans hvd)
        clear hv hq
        go_wp2
        go_round
        case rel => exact ⟨i + 1, by omega, by go_num, hvd.out⟩
        case measure => simp [intOf]; omega
      · rw [hq.out, he] at hvd
        replace hvd := Lib.hid (hv.out.trans hvd)
        clear hv hq
        go_wp2
        go_ret2
        exact ⟨by rw [hvd.out]; rfl, hb⟩
    · have hvd : Hid (M3.valueOf name ats = none) := by show _ = _; rw [hv.out, List.drop_of_length_le (by omega)]; rfl
      go_wp2
      go_ret2
      exact ⟨by rw [hvd.out]; rfl, hb⟩

theorem infoS : (Try.prog.info? 9).map (fun i => (i.zero, i.size, i.bytes)) = some (some (.string ⟨#[]⟩), 1, 16) := by kernel_rfl
theorem valAns_mk (o : Option ByteArray) : ∃ s b, valAns o = .tuple #[.string s, .bool b] := ⟨_, _, rfl⟩
theorem cut_attrs (x : Nd) : (fewN [x]) = [.mk x.kind (M3.few x.name) ((x.attrs.take 5).map M3.fewA) (M3.few x.text) (M3.cut x.kids 39).1] := by
  unfold fewN
  rw [show (40 : Nat) = 39 + 1 from rfl, M3.cut_cons, M3.cut_nil]
abbrev strs (l : List ByteArray) : List Value := l.map Value.string


end Go.Proofs.Ytbnfaijkmbgpmaa

/- The reference of layer 3: nodes that may be, made of any. -/
namespace Go.Proofs.Ytbnfaijkmbgpmaa
open Go.RowKit

/-- All texts are short. -/
def Sm1 (x : Nd) : Prop := x.name.size ≤ 30 ∧ x.text.size ≤ 30 ∧ ∀ a ∈ x.attrs, a.name.size ≤ 30 ∧ a.value.size ≤ 30

def Sm30 : List Nd → Prop
  | [] => True
  | .mk k n a t ks :: r => Sm1 (.mk k n a t ks) ∧ Sm30 ks ∧ Sm30 r
termination_by l => SizeOf.sizeOf l

theorem sm_nil : Sm30 [] := by rw [Sm30]; trivial

theorem sm_cons {x : Nd} {r : List Nd} : Sm30 (x :: r) ↔ Sm1 x ∧ Sm30 x.kids ∧ Sm30 r := by cases x; rw [Sm30]; rfl

theorem sm_iff {l : List Nd} : Sm30 l ↔ ∀ x ∈ l, Sm1 x ∧ Sm30 x.kids := by
  induction l with
  | nil => simp [sm_nil]
  | cons x r ih => rw [sm_cons, ih]; simp; exact ⟨fun h => ⟨⟨h.1, h.2.1⟩, h.2.2⟩, fun h => ⟨h.1.1, h.1.2, h.2⟩⟩

theorem cut_sm (l : List Nd) : ∀ m, Sm30 (M3.cut l m).1 := by
  induction l using Nd.ind with
  | h0 => intro m; rw [M3.cut_nil]; exact sm_nil
  | h1 k n ats t ks r ih1 ih2 =>
    intro m
    cases m with
    | zero => rw [M3.cut_zero]; exact sm_nil
    | succ m =>
      rw [M3.cut_cons]
      refine sm_cons.2 ⟨⟨few_size _, few_size _, fun a ha => ?_⟩, ih1 _, ih2 _⟩
      obtain ⟨b, _, rfl⟩ := List.mem_map.1 ha
      exact ⟨few_size _, few_size _⟩

theorem few_sm (l : List Nd) : Sm30 (fewN l) := cut_sm l 40

theorem good_len (l : List Nd) : (M3.goodN l).length = l.length := by rw [M3.goodN_map, List.length_map]

theorem good_weight (l : List Nd) : M3.weight (M3.goodN l) ≤ M3.weight l := by
  induction l using Nd.ind with
  | h0 => rw [M3.goodN_nil]; exact Nat.le_refl _
  | h1 k n ats t ks r ih1 ih2 =>
    rw [M3.goodN_cons, M3.weight_cons, M3.weight_cons, M3.good1_mk]
    have h1 := M3.goodA_len ats
    have h2 := weight_merge (M3.goodN ks)
    show _ ≤ 1 + ats.length + M3.weight ks + M3.weight r
    split
    · show 1 + (M3.goodA ats).length + M3.weight (M3.merge (M3.goodN ks)) + _ ≤ _; omega
    · show 1 + 0 + M3.weight [] + _ ≤ _; rw [M3.weight_nil]; omega

theorem good_texts (l : List Nd) (h : Sm30 l) : ∀ x ∈ M3.goodN l, x.text.size ≤ 120 := by
  intro x hx
  rw [M3.goodN_map] at hx
  obtain ⟨y, hy, rfl⟩ := List.mem_map.1 hx
  have := (sm_iff.1 h y hy).1.2.1
  unfold M3.good1
  split
  · show (⟨#[]⟩ : ByteArray).size ≤ _; decide
  · show (M3.rightN y.text).size ≤ _; have := M3.rightN_size y.text; omega

theorem good_txt (l : List Nd) (h : Sm30 l) : txtN (M3.goodN l) ≤ l.length * 120 := by
  have := txtN_fit _ 120 (good_texts l h)
  rwa [good_len] at this

/-- A new attribute of two calls' answers, in whatever order. -/
def AttI (wr : World) (av a1 a2 : ByteArray) (f : Nat → Bool) (t : Nat → Value) (W : World) : Prop :=
  Below wr.heap.size wr W ∧ (f 19 = true → f 23 = false → Sl W (t 19) (u8s av.data.toList)) ∧ (f 23 = true → f 22 = true ∧ f 20 = true) ∧
    (f 22 = true → ∃ ga, t 22 = .pointer (some ⟨ga, 0, none⟩) ∧ wr.heap.size ≤ ga ∧ Box W ga 51 (bif f 23 then [.string a1, .string a2] else [.string ⟨#[]⟩, .string ⟨#[]⟩]))

theorem AttI.start (wr : World) (av a1 a2 : ByteArray) (t : Nat → Value) {f : Nat → Bool} (h1 : f 19 = false) (h2 : f 22 = false) (h3 : f 23 = false) : AttI wr av a1 a2 f t wr.drew :=
  ⟨(Below.refl _ _).drew, (fun h => by rw [h1] at h; cases h), (fun h => by rw [h3] at h; cases h), (fun h => by rw [h2] at h; cases h)⟩

theorem AttI.next {wr W W' : World} {av a1 a2 : ByteArray} {f : Nat → Bool} {t : Nat → Value} (h : AttI wr av a1 a2 f t W) (hb : Below W.heap.size W W') : AttI wr av a1 a2 f t W' := by
  obtain ⟨h1, h2, h3, h4⟩ := h
  refine ⟨h1.trans (hb.mono h1.size), fun hf hg => (h2 hf hg).below hb, h3, fun hf => ?_⟩
  obtain ⟨ga, e, hg, hbx⟩ := h4 hf
  exact ⟨ga, e, hg, hbx.below hb hbx.lt⟩

theorem AttI.conv {wr W : World} {av a1 a2 : ByteArray} {f : Nat → Bool} {t : Nat → Value} {x : Value} (h : AttI wr av a1 a2 f t W) (hs : Sl W x (u8s av.data.toList)) : AttI wr av a1 a2 (updF f 19) (updT t 19 x) W :=
  ⟨h.1, fun _ _ => by rw [updT_same]; exact hs, h.2.2.1, h.2.2.2⟩

theorem AttI.right {wr W : World} {av a1 a2 : ByteArray} {f : Nat → Bool} {t : Nat → Value} {x : Value} (h : AttI wr av a1 a2 f t W) : AttI wr av a1 a2 (updF f 20) (updT t 20 x) W :=
  ⟨h.1, h.2.1, fun hf => ⟨(h.2.2.1 hf).1, updF_same _ _⟩, h.2.2.2⟩

theorem AttI.made {wr W : World} {av a1 a2 : ByteArray} {f : Nat → Bool} {t : Nat → Value} (h : AttI wr av a1 a2 f t W) (hf : f 22 = false) :
    AttI wr av a1 a2 (updF f 22) (updT t 22 (.pointer (some ⟨W.heap.size, 0, none⟩))) (W.alloc (.cells #[.string ⟨#[]⟩, .string ⟨#[]⟩] 51)) := by
  have h23 : f 23 = false := by
    cases h2 : f 23
    · rfl
    · rw [(h.2.2.1 h2).1] at hf; cases hf
  have hb : Below W.heap.size W (W.alloc (.cells #[.string ⟨#[]⟩, .string ⟨#[]⟩] 51)) := (Below.refl _ _).alloc (Nat.le_refl _) _
  have hn := h.next hb
  refine ⟨hn.1, hn.2.1, fun h => ⟨updF_same _ _, (hn.2.2.1 h).2⟩, fun _ => ⟨W.heap.size, rfl, h.1.size, ?_⟩⟩
  rw [updF_ne f (by decide), h23]
  exact Box.new W 51 [.string ⟨#[]⟩, .string ⟨#[]⟩]

theorem AttI.put {wr W : World} {av a1 a2 : ByteArray} {f : Nat → Bool} {t : Nat → Value} {ga : Nat} {v : Value} (h : AttI wr av a1 a2 f t W) (hf : f 22 = true) (hf2 : f 20 = true) (ht : t 22 = .pointer (some ⟨ga, 0, none⟩)) (hg : wr.heap.size ≤ ga) (hbx : Box W ga 51 [.string ⟨#[]⟩, .string ⟨#[]⟩]) :
    AttI wr av a1 a2 (updF f 23) (updT t 23 v) ((W.setCell ⟨ga, 0, none⟩ (.string a1)).setCell ⟨ga, 1, none⟩ (.string a2)) := by
  refine ⟨(h.1.setCell (p := ⟨ga, 0, none⟩) hg _).setCell (p := ⟨ga, 1, none⟩) hg _, (fun _ hf23 => by rw [updF_same] at hf23; cases hf23), fun _ => ⟨by rw [updF_ne f (by decide)]; exact hf, by rw [updF_ne f (by decide)]; exact hf2⟩, fun _ => ⟨ga, by rw [updT_ne t v (by decide)]; exact ht, hg, ?_⟩⟩
  rw [updF_same]
  exact (hbx.set 0 (.string a1)).set 1 (.string a2)

theorem cell_alloc_swap {w : World} {o o' : Obj} {b c : Nat} {v : Value} (h : (w.alloc o).cell? ⟨b, c, none⟩ = some v) (hb : b < w.heap.size) : (w.alloc o').cell? ⟨b, c, none⟩ = some v := by
  have h1 := ((Below.refl w.heap.size w).alloc (Nat.le_refl _) o).cell (p := ⟨b, c, none⟩) hb
  have h2 := ((Below.refl w.heap.size w).alloc (Nat.le_refl _) o').cell (p := ⟨b, c, none⟩) hb
  rw [h2, ← h1]; exact h

theorem cell_of_below {B : Nat} {w w' : World} (hb : Below B w w') {b o : Nat} {v : Value} (h : w.cell? ⟨b, o, none⟩ = some v) (hlt : b < B) : w'.cell? ⟨b, o, none⟩ = some v := (hb.cell (p := ⟨b, o, none⟩) hlt).trans h

set_option maxHeartbeats 8000000 in
set_option maxRecDepth 100000 in
theorem ref03good (wt : Nat) : ∀ (S : Nat → Prop) (v : Value) (l : List Nd) (w : World), M3.weight l < wt → M3.weight l ≤ 1000000 → Sm30 l → (∀ b, S b → b < w.heap.size) → RepN S w v l →
    Calls Try.prog 28 #[v] w (FreshPost (M3.good l) w) := by
  induction wt with
  | zero => intro S v l w h; omega
  | succ wt ih =>
  intro S v l w hwt hw6 hsm hS hr
  have hll := M3.length_le_weight l
  obtain ⟨a, cap, rfl⟩ := hr.slice
  obtain ⟨_, hlc, hcm⟩ := hr.len
  replace ih := Lib.hid ih
  replace hsm := Lib.hid hsm
  go_enter Try.func28, Try.ntmps28
  go_wp2_with fail
  go_loopw [3, 4, 5, 6, 7, 8, 9] (fun u3 u4 _ _ _ _ _ wr => ∃ i : Nat, i ≤ l.length ∧ u4 = .int .i64 (i : Int) ∧ Fresh wr w.heap.size u3 (M3.goodN (l.take i)) ∧ Below w.heap.size w wr) (fun _ u4 _ _ _ _ _ _ => l.length - (intOf u4).toNat)
  case atStart => exact ⟨0, by omega, rfl, by rw [List.take_zero, M3.goodN_nil]; exact Fresh.nil _ _, Below.refl _ _⟩
  case round =>
    obtain ⟨i, hi, rfl, hf, hb⟩ := hrel
    have hz := hb.size
    by_cases hlt : i < l.length
    · obtain ⟨b, off, va, vk, rfl, hSb, c0, c1, c2, c3, c4, hrv⟩ := (hr.below hS hb).at_ i hlt
      have hbl := hS b hSb
      obtain ⟨hs1, hs2⟩ := sm_iff.1 hsm.out _ (List.getElem_mem hlt)
      have hwk := weight_mem (List.getElem_mem hlt)
      have hwx := weight_le (List.getElem_mem hlt)
      have hgt : M3.goodN (l.take (i + 1)) = M3.goodN (l.take i) ++ [M3.good1 l[i]] := by rw [List.take_succ_eq_append_getElem hlt, M3.goodN_map, M3.goodN_map, List.map_append]; rfl
      have hAl : (M3.goodN (l.take i)).length ≤ 1000000 := by rw [good_len]; have := List.length_take_le i l; omega
      generalize l[i] = x at *
      replace hgt := Lib.hid hgt
      generalize hA : M3.goodN (l.take i) = A at *
      replace hA := Lib.hid hA
      obtain ⟨a1, e1, rfl⟩ := hrv.at_.slice
      obtain ⟨a2, e2, rfl⟩ := hrv.kids.slice
      have hI0 : (0 : Int) ≤ (i : Int) := by omega
      have hI1 : (i : Int) < (l.length : Int) := by omega
      obtain ⟨wo, rfl⟩ : ∃ wo : World, wo = wr := ⟨_, rfl⟩
      cases x with | mk kd n ats t ks =>
      simp only [Nd.kind, Nd.name, Nd.text, Nd.attrs, Nd.kids] at *
      have hat0 : Row S wo 2 (.slice a1 ats.length e1) ats.length (cellsA ats) := hrv.at_
      have hkd0 : RepN S wo (.slice a2 ks.length e2) ks := hrv.kids
      replace hkd0 := Lib.hid hkd0
      clear hrv
      obtain ⟨zs, F, hownA, hocA, hspA⟩ := hf
      replace hocA := Lib.hid hocA
      replace hspA := Lib.hid hspA
      have hg1 := M3.good1_mk kd n ats t ks
      have hts : t.size ≤ 30 := hs1.2.1
      have hns : n.size ≤ 30 := hs1.1
      have has : ∀ a ∈ ats, a.name.size ≤ 30 ∧ a.value.size ≤ 30 := hs1.2.2
      replace has := Lib.hid has
      have hblo : b < wo.heap.size := by omega
      by_cases hk1 : M3.kindN kd = 1
      · rw [if_pos hk1] at hg1
        have hkq : Hid ((decide (kd < 1) || decide (3 < kd)) = true ∨ kd = 1) := by
          show _ ∨ _
          unfold M3.kindN at hk1
          by_cases h : kd < 1 ∨ 3 < kd
          · left; simpa using h
          · right; rw [if_neg h] at hk1; exact hk1
        go_upto_region 6 with (fail)
        go_cut [29] from 10 to 110 (fun s29 wx => s29 = .bool (decide (kd < 1) || decide (3 < kd)) ∧ wx = wo.alloc (.cells #[.int .i64 kd, .string ⟨#[]⟩, .slice none 0 0, .string ⟨#[]⟩, .slice none 0 0] 32))
        case first =>
          by_cases h1 : kd < 1
          · go_wp2_with fail
            go_meet
            case rel => exact ⟨by rw [show decide (kd < 1) = true from decide_eq_true (by omega)]; rfl, rfl⟩
          · go_wp2_with fail
            go_meet
            case rel => exact ⟨by rw [show decide (kd < 1) = false from decide_eq_false (by omega)]; rfl, rfl⟩
        case rest =>
          obtain ⟨rfl, rfl⟩ := hcut
          go_upto_if 29 with (fail)
          go_cut [] from 10 to 110 (fun wx => wx = wo.alloc (.cells #[.int .i64 1, .string ⟨#[]⟩, .slice none 0 0, .string ⟨#[]⟩, .slice none 0 0] 32))
          case first =>
            generalize hq : (decide (kd < 1) || decide (3 < kd)) = q at *
            cases q
            · obtain rfl : kd = 1 := by rcases hkq.out with h | h; cases h; exact h
              go_wp2_with fail
              go_meet
              case rel => rfl
            · go_wp2_with fail
              go_meet
              case rel => rfl
          case rest =>
            have hbx1 := Box.new wo 32 [.int .i64 1, .string ⟨#[]⟩, .slice none 0 0, .string ⟨#[]⟩, .slice none 0 0]
            have hbo1 : Below wo.heap.size wo (wo.alloc (.cells #[.int .i64 1, .string ⟨#[]⟩, .slice none 0 0, .string ⟨#[]⟩, .slice none 0 0] 32)) := (Below.refl _ _).alloc (Nat.le_refl _) _
            have hso : (wo.alloc (.cells #[.int .i64 1, .string ⟨#[]⟩, .slice none 0 0, .string ⟨#[]⟩, .slice none 0 0] 32)).heap.size = wo.heap.size + 1 := by simp
            change Box (wo.alloc (.cells #[.int .i64 1, .string ⟨#[]⟩, .slice none 0 0, .string ⟨#[]⟩, .slice none 0 0] 32)) _ _ _ at hbx1
            rw [← hcut] at hbx1 hbo1 hso
            clear hcut
            have r1 := (hbo1.cell (p := ⟨b, off + i * 5 + 1, none⟩) hblo).trans c1
            have q0 := hbx1.cell (i := 0) rfl
            have hWd := Lib.hid (ref03Word n wc (by omega))
            have hwn := M3.wordN_size n 30 hns (by omega)
            generalize M3.wordN n = nm at *
            replace hso := Lib.hid hso
            go_wp2_with fail
            refine hWd.out.mono ?_
            rintro e w2 ⟨rfl, hb2⟩
            have hz2 := hb2.size
            have hbo2 : Below wo.heap.size wo w2 := hbo1.trans (hb2.mono (by have := hso.out; omega))
            have hbx2 := hbx1.below hb2 hbx1.lt
            have d1 := hbx2.cell (i := 1) rfl
            have f1 := hbx2.free 1
            clear hWd hbx1 hbo1 hb2 q0 r1
            go_wp2_with fail
            have hbx3 := hbx2.set 1 (.string nm)
            have hbo3 : Below wo.heap.size wo (w2.setCell ⟨wo.heap.size, 1, none⟩ (.string nm)) := hbo2.setCell (p := ⟨wo.heap.size, 1, none⟩) (Nat.le_refl _) _
            simp only [List.set_cons_succ, List.set_cons_zero] at hbx3
            obtain ⟨W3, hW3⟩ : ∃ W3, w2.setCell ⟨wo.heap.size, 1, none⟩ (.string nm) = W3 := ⟨_, rfl⟩
            rw [hW3] at hbx3 hbo3 ⊢
            clear hW3 hbx2 hbo2 d1 f1
            go_loopw [6, 7, 8, 9] (fun u6 _ _ _ wr => ∃ (k : Nat) (acc : List Att) (va : Value), k ≤ ats.length ∧ u6 = .int .i64 (k : Int) ∧ Box wr wo.heap.size 32 [.int .i64 1, .string nm, va, .string ⟨#[]⟩, .slice none 0 0] ∧ wr.ownsRow (wo.heap.size + 1) 51 2 va acc.length (cellsA acc) ∧ Hid (acc = M3.goodA (ats.take k)) ∧ Below wo.heap.size wo wr) (fun u6 _ _ _ _ => ats.length - (intOf u6).toNat)
            case atStart => exact ⟨0, [], _, by omega, rfl, hbx3, World.ownsRow_nil _ _ _ _, rfl, hbo3⟩
            case round =>
              obtain ⟨k, acc, va, hk, rfl, hbx, hown, hacc, hbo⟩ := hrel
              have hz3 := hbo.size
              have hgl := hbx.lt
              have r2 := (hbo.cell (p := ⟨b, off + i * 5 + 2, none⟩) hblo).trans c2
              clear hbx3 hbo3
              by_cases hkl : k < ats.length
              · obtain ⟨ab, aoff, rfl, hSab, p0, p1⟩ := (hat0.below (fun c hc => by have := hS c hc; omega) hbo).atA k hkl
                have habl := hS ab hSab
                obtain ⟨hsa, hsv⟩ := has.out _ (List.getElem_mem hkl)
                have htk : M3.goodA (ats.take (k + 1)) = M3.addA (M3.goodA (ats.take k)) ats[k] := by rw [List.take_succ_eq_append_getElem hkl, M3.goodA_snoc]
                have hacl : acc.length ≤ k := by rw [hacc.out]; have := M3.goodA_len (ats.take k); have := List.length_take_le k ats; omega
                have hadd : M3.addA acc ats[k] = if (M3.valueOf (M3.attrN ats[k].name) acc).isSome then acc else acc ++ [⟨M3.attrN ats[k].name, M3.rightN ats[k].value⟩] := rfl
                rw [← hacc.out, hadd] at htk
                clear hadd
                have hAt := Lib.hid (fun W => ref03Attribute ats[k].name W (by omega))
                generalize ats[k].name = an at *
                generalize ats[k].value = av at *
                have hK0 : (0 : Int) ≤ (k : Int) := by omega
                have hK1 : (k : Int) < (ats.length : Int) := by omega
                replace htk := Lib.hid htk
                go_upto_region 15 with (fail)
                refine wp_region_known (n := 24) ([some (.slice (some ⟨b, off, none⟩) l.length cap), some (.int .i64 (i : Int)), some (.pointer (some ⟨b, off + i * 5, none⟩)), some (.pointer (some ⟨b, off + i * 5 + 2, none⟩)), some (.slice (some ⟨ab, aoff, none⟩) ats.length e1), some (.int .i64 (k : Int)), some (.pointer (some ⟨ab, aoff + k * 2, none⟩)), some (.pointer (some ⟨ab, aoff + k * 2, none⟩)), some (.string an), some (.string (M3.attrN an)), some (.slice (some ⟨b, off, none⟩) l.length cap), some (.int .i64 (i : Int)), some (.pointer (some ⟨b, off + i * 5, none⟩)), some (.pointer (some ⟨b, off + i * 5 + 2, none⟩)), some (.slice (some ⟨ab, aoff, none⟩) ats.length e1), some (.int .i64 (k : Int)), some (.pointer (some ⟨ab, aoff + k * 2, none⟩)), some (.pointer (some ⟨ab, aoff + k * 2 + 1, none⟩)), some (.string av), none, some (.string ⟨(M1.right av.data.toList).toArray⟩), some (.agg #[.string (M3.attrN an), .string ⟨(M1.right av.data.toList).toArray⟩]), none, none] : List (Option Value)) (fun t => ⟨#[Value.slice (some { block := b, off := off }) l.length cap, undef, Value.slice none 0 0, u3, Value.int IntKind.i64 ↑i, Value.pointer (some { block := wo.heap.size, off := 0 }), Value.int IntKind.i64 ↑k, t 22, u8, u9, u10, u11, u12, u13, u14, u15, u16, u17, u18, u19, u20, u21, u22, u23, u24, u25, u26, u27, u28, u29, u30, Value.pointer (some { block := wo.heap.size, off := 0 }), Value.int IntKind.i64 1, Value.bool false, u34, u35, u36, u37, u38, u39, u40, u41, u42, u43, u44, u45, Value.slice (some { block := b, off := off }) l.length cap, Value.int IntKind.i64 ↑i, Value.pointer (some { block := b, off := off + i * 5 }), Value.pointer (some { block := b, off := off + i * 5 + 1 }), Value.string n, Value.string nm, Value.pointer (some { block := wo.heap.size, off := 1 }), Value.int IntKind.i64 ↑k, Value.slice (some { block := b, off := off }) l.length cap, Value.int IntKind.i64 ↑i, Value.pointer (some { block := b, off := off + i * 5 }), Value.pointer (some { block := b, off := off + i * 5 + 2 }), Value.slice (some { block := ab, off := aoff }) ats.length e1, Value.int IntKind.i64 ↑ats.length, Value.bool true, u61, u62, t 0, t 1, t 2, t 3, t 4, t 5, t 6, t 7, t 8, t 9, t 10, t 11, t 12, t 13, t 14, t 15, t 16, t 17, t 18, t 19, t 20, t 21, u85, u86, u87, u88, u89, u90, u91, u92, u93, u94, u95, u96, u97, u98, u99, u100, u101, u102, u103, u104, u105, u106, u107, u108, u109, u110, undef, undef], []⟩) (fun f t W => AttI wr av (M3.attrN an) ⟨(M1.right av.data.toList).toArray⟩ f t W) (fun j => match j with | 0 => u63 | 1 => u64 | 2 => u65 | 3 => u66 | 4 => u67 | 5 => u68 | 6 => u69 | 7 => u70 | 8 => u71 | 9 => u72 | 10 => u73 | 11 => u74 | 12 => u75 | 13 => u76 | 14 => u77 | 15 => u78 | 16 => u79 | 17 => u80 | 18 => u81 | 19 => u82 | 20 => u83 | 21 => u84 | 22 => u7 | _ => undef) (by kernel_rfl) (by rfl) (by rfl) (by kernel_rfl) rfl ?i0 ?step ?fin
                case i0 =>
                  exact AttI.start _ _ _ _ _ (by simp) (by simp) (by simp)
                case step =>
                  intro i hi f t W hfi hwt hk hI
                  have s0 := cell_of_below hI.1 r2 (by omega)
                  have s1 := cell_of_below hI.1 p0 (by omega)
                  have s2 := cell_of_below hI.1 p1 (by omega)
                  obtain rfl | rfl | rfl | rfl | rfl | rfl | rfl | rfl | rfl | rfl | rfl | rfl | rfl | rfl | rfl | rfl | rfl | rfl | rfl | rfl | rfl | rfl | rfl | rfl : i = 0 ∨ i = 1 ∨ i = 2 ∨ i = 3 ∨ i = 4 ∨ i = 5 ∨ i = 6 ∨ i = 7 ∨ i = 8 ∨ i = 9 ∨ i = 10 ∨ i = 11 ∨ i = 12 ∨ i = 13 ∨ i = 14 ∨ i = 15 ∨ i = 16 ∨ i = 17 ∨ i = 18 ∨ i = 19 ∨ i = 20 ∨ i = 21 ∨ i = 22 ∨ i = 23 := by omega
                  · -- operation 0
                    replace hI := Lib.hid hI
                    replace hk := Lib.hid hk
                    clear hwt
                    refine wpOp_step rfl (fun K hK => ?_)
                    go_simp
                    exact hK _ _ ⟨_, by simp [updT], hk.out.at_ rfl, hI.out⟩
                  · -- operation 1
                    replace hI := Lib.hid hI
                    replace hk := Lib.hid hk
                    clear hwt
                    refine wpOp_step rfl (fun K hK => ?_)
                    go_simp
                    exact hK _ _ ⟨_, by simp [updT], hk.out.at_ rfl, hI.out⟩
                  · -- operation 2
                    have e0 : t 0 = .slice (some ⟨b, off, none⟩) l.length cap := hk 0 _ (hwt 0 (by kernel_rfl)) rfl
                    have e1 : t 1 = .int .i64 (i : Int) := hk 1 _ (hwt 1 (by kernel_rfl)) rfl
                    replace hI := Lib.hid hI
                    replace hk := Lib.hid hk
                    clear hwt
                    refine wpOp_step rfl (fun K hK => ?_)
                    go_simp
                    exact hK _ _ ⟨_, by simp [updT, e0, e1], hk.out.at_ rfl, hI.out⟩
                  · -- operation 3
                    have e2 : t 2 = .pointer (some ⟨b, off + i * 5, none⟩) := hk 2 _ (hwt 2 (by kernel_rfl)) rfl
                    replace hI := Lib.hid hI
                    replace hk := Lib.hid hk
                    clear hwt
                    refine wpOp_step rfl (fun K hK => ?_)
                    go_simp
                    exact hK _ _ ⟨_, by simp [updT, e2], hk.out.at_ rfl, hI.out⟩
                  · -- operation 4
                    have e3 : t 3 = .pointer (some ⟨b, off + i * 5 + 2, none⟩) := hk 3 _ (hwt 3 (by kernel_rfl)) rfl
                    replace hI := Lib.hid hI
                    replace hk := Lib.hid hk
                    clear hwt
                    refine wpOp_step rfl (fun K hK => ?_)
                    go_simp
                    exact hK _ _ ⟨_, by simp [updT, e3], hk.out.at_ rfl, hI.out⟩
                  · -- operation 5
                    replace hI := Lib.hid hI
                    replace hk := Lib.hid hk
                    clear hwt
                    refine wpOp_step rfl (fun K hK => ?_)
                    go_simp
                    exact hK _ _ ⟨_, by simp [updT], hk.out.at_ rfl, hI.out⟩
                  · -- operation 6
                    have e4 : t 4 = .slice (some ⟨ab, aoff, none⟩) ats.length e1 := hk 4 _ (hwt 4 (by kernel_rfl)) rfl
                    have e5 : t 5 = .int .i64 (k : Int) := hk 5 _ (hwt 5 (by kernel_rfl)) rfl
                    replace hI := Lib.hid hI
                    replace hk := Lib.hid hk
                    clear hwt
                    refine wpOp_step rfl (fun K hK => ?_)
                    go_simp
                    exact hK _ _ ⟨_, by simp [updT, e4, e5], hk.out.at_ rfl, hI.out⟩
                  · -- operation 7
                    have e6 : t 6 = .pointer (some ⟨ab, aoff + k * 2, none⟩) := hk 6 _ (hwt 6 (by kernel_rfl)) rfl
                    replace hI := Lib.hid hI
                    replace hk := Lib.hid hk
                    clear hwt
                    refine wpOp_step rfl (fun K hK => ?_)
                    go_simp
                    exact hK _ _ ⟨_, by simp [updT, e6], hk.out.at_ rfl, hI.out⟩
                  · -- operation 8
                    have e7 : t 7 = .pointer (some ⟨ab, aoff + k * 2, none⟩) := hk 7 _ (hwt 7 (by kernel_rfl)) rfl
                    replace hI := Lib.hid hI
                    replace hk := Lib.hid hk
                    clear hwt
                    refine wpOp_step rfl (fun K hK => ?_)
                    go_simp
                    exact hK _ _ ⟨_, by simp [updT, e7], hk.out.at_ rfl, hI.out⟩
                  · -- operation 9
                    have e8 : t 8 = .string an := hk 8 _ (hwt 8 (by kernel_rfl)) rfl
                    replace hk := Lib.hid hk
                    replace hI := Lib.hid hI
                    clear hwt
                    refine wpOp_step rfl (fun K hK => ?_)
                    go_simp
                    refine (hAt.out _).mono ?_
                    rintro e w5 ⟨rfl, hb5⟩
                    exact hK _ _ ⟨_, by simp [updT, e8], hk.out.at_ rfl, hI.out.next hb5⟩
                  · -- operation 10
                    replace hI := Lib.hid hI
                    replace hk := Lib.hid hk
                    clear hwt
                    refine wpOp_step rfl (fun K hK => ?_)
                    go_simp
                    exact hK _ _ ⟨_, by simp [updT], hk.out.at_ rfl, hI.out⟩
                  · -- operation 11
                    replace hI := Lib.hid hI
                    replace hk := Lib.hid hk
                    clear hwt
                    refine wpOp_step rfl (fun K hK => ?_)
                    go_simp
                    exact hK _ _ ⟨_, by simp [updT], hk.out.at_ rfl, hI.out⟩
                  · -- operation 12
                    have e10 : t 10 = .slice (some ⟨b, off, none⟩) l.length cap := hk 10 _ (hwt 10 (by kernel_rfl)) rfl
                    have e11 : t 11 = .int .i64 (i : Int) := hk 11 _ (hwt 11 (by kernel_rfl)) rfl
                    replace hI := Lib.hid hI
                    replace hk := Lib.hid hk
                    clear hwt
                    refine wpOp_step rfl (fun K hK => ?_)
                    go_simp
                    exact hK _ _ ⟨_, by simp [updT, e10, e11], hk.out.at_ rfl, hI.out⟩
                  · -- operation 13
                    have e12 : t 12 = .pointer (some ⟨b, off + i * 5, none⟩) := hk 12 _ (hwt 12 (by kernel_rfl)) rfl
                    replace hI := Lib.hid hI
                    replace hk := Lib.hid hk
                    clear hwt
                    refine wpOp_step rfl (fun K hK => ?_)
                    go_simp
                    exact hK _ _ ⟨_, by simp [updT, e12], hk.out.at_ rfl, hI.out⟩
                  · -- operation 14
                    have e13 : t 13 = .pointer (some ⟨b, off + i * 5 + 2, none⟩) := hk 13 _ (hwt 13 (by kernel_rfl)) rfl
                    replace hI := Lib.hid hI
                    replace hk := Lib.hid hk
                    clear hwt
                    refine wpOp_step rfl (fun K hK => ?_)
                    go_simp
                    exact hK _ _ ⟨_, by simp [updT, e13], hk.out.at_ rfl, hI.out⟩
                  · -- operation 15
                    replace hI := Lib.hid hI
                    replace hk := Lib.hid hk
                    clear hwt
                    refine wpOp_step rfl (fun K hK => ?_)
                    go_simp
                    exact hK _ _ ⟨_, by simp [updT], hk.out.at_ rfl, hI.out⟩
                  · -- operation 16
                    have e14 : t 14 = .slice (some ⟨ab, aoff, none⟩) ats.length e1 := hk 14 _ (hwt 14 (by kernel_rfl)) rfl
                    have e15 : t 15 = .int .i64 (k : Int) := hk 15 _ (hwt 15 (by kernel_rfl)) rfl
                    replace hI := Lib.hid hI
                    replace hk := Lib.hid hk
                    clear hwt
                    refine wpOp_step rfl (fun K hK => ?_)
                    go_simp
                    exact hK _ _ ⟨_, by simp [updT, e14, e15], hk.out.at_ rfl, hI.out⟩
                  · -- operation 17
                    have e16 : t 16 = .pointer (some ⟨ab, aoff + k * 2, none⟩) := hk 16 _ (hwt 16 (by kernel_rfl)) rfl
                    replace hI := Lib.hid hI
                    replace hk := Lib.hid hk
                    clear hwt
                    refine wpOp_step rfl (fun K hK => ?_)
                    go_simp
                    exact hK _ _ ⟨_, by simp [updT, e16], hk.out.at_ rfl, hI.out⟩
                  · -- operation 18
                    have e17 : t 17 = .pointer (some ⟨ab, aoff + k * 2 + 1, none⟩) := hk 17 _ (hwt 17 (by kernel_rfl)) rfl
                    replace hI := Lib.hid hI
                    replace hk := Lib.hid hk
                    clear hwt
                    refine wpOp_step rfl (fun K hK => ?_)
                    go_simp
                    exact hK _ _ ⟨_, by simp [updT, e17], hk.out.at_ rfl, hI.out⟩
                  · -- operation 19
                    have e18 : t 18 = .string av := hk 18 _ (hwt 18 (by kernel_rfl)) rfl
                    replace hk := Lib.hid hk
                    replace hI := Lib.hid hI
                    clear hwt
                    obtain ⟨x1, w1, hc1, y1, b1⟩ := conv_bytes W av (by omega)
                    refine wpOp_step rfl (fun K hK => ?_)
                    go_simp
                    exact hK _ _ ⟨_, by simp [updT, e18], hk.out.free rfl, (hI.out.next b1).conv y1⟩
                  · -- operation 20
                    have hf23 : f 23 = false := by
                      cases h2 : f 23
                      · rfl
                      · rw [(hI.2.2.1 h2).2] at hfi; cases hfi
                    have hsl := hI.2.1 (hwt 19 (by kernel_rfl)) hf23
                    replace hf23 := Lib.hid hf23
                    have hR := Lib.hid (ref01Right (t 19) av.data.toList W hsl (by show av.size ≤ _; omega))
                    replace hk := Lib.hid hk
                    replace hI := Lib.hid hI
                    clear hwt
                    refine wpOp_step rfl (fun K hK => ?_)
                    go_simp
                    refine hR.out.mono ?_
                    rintro e w5 ⟨rfl, hb5⟩
                    exact hK _ _ ⟨_, by simp [updT], hk.out.at_ rfl, (hI.out.next hb5).right⟩
                  · -- operation 21
                    have e9 : t 9 = .string (M3.attrN an) := hk 9 _ (hwt 9 (by kernel_rfl)) rfl
                    have e20 : t 20 = .string ⟨(M1.right av.data.toList).toArray⟩ := hk 20 _ (hwt 20 (by kernel_rfl)) rfl
                    replace hI := Lib.hid hI
                    replace hk := Lib.hid hk
                    clear hwt
                    refine wpOp_step rfl (fun K hK => ?_)
                    go_simp
                    exact hK _ _ ⟨_, by simp [updT, e9, e20], hk.out.at_ rfl, hI.out⟩
                  · -- operation 22
                    replace hk := Lib.hid hk
                    replace hI := Lib.hid hI
                    clear hwt
                    refine wpOp_step rfl (fun K hK => ?_)
                    go_simp
                    exact hK _ _ ⟨_, by simp [updT], hk.out.free rfl, hI.out.made hfi⟩
                  · -- operation 23
                    have e21 : t 21 = .agg #[.string (M3.attrN an), .string ⟨(M1.right av.data.toList).toArray⟩] := hk 21 _ (hwt 21 (by kernel_rfl)) rfl
                    obtain ⟨ga, e22, hga, hbx⟩ := hI.2.2.2 (hwt 22 (by kernel_rfl))
                    rw [hfi] at hbx
                    change Box W ga _ [.string ⟨#[]⟩, .string ⟨#[]⟩] at hbx
                    have y0 := hbx.cell (i := 0) rfl
                    have y1 := hbx.cell (i := 1) rfl
                    have z0 := hbx.free 0
                    have z1 := hbx.free 1
                    have f22 := Lib.hid (hwt 22 (by kernel_rfl))
                    have f20 := Lib.hid (hwt 20 (by kernel_rfl))
                    replace hk := Lib.hid hk
                    replace hI := Lib.hid hI
                    clear hwt
                    refine wpOp_step rfl (fun K hK => ?_)
                    go_simp
                    exact hK _ _ ⟨undef, by simp [updT, e21, e22], hk.out.free rfl, hI.out.put f22.out f20.out e22 hga hbx⟩
                case fin =>
                  intro f t W hall hk hI
                  obtain ⟨ga, e22, hga, hba⟩ := hI.2.2.2 (hall 22 (by omega))
                  rw [hall 23 (by omega)] at hba
                  change Box W ga _ [.string (M3.attrN an), .string ⟨(M1.right av.data.toList).toArray⟩] at hba
                  have hB := hI.1
                  clear hk hI hall hAt
                  dsimp only
                  rw [e22]
                  have hrr : (⟨(M1.right av.data.toList).toArray⟩ : ByteArray) = M3.rightN av := rfl
                  rw [hrr] at hba
                  clear hrr p0 p1 r2 e22
                  generalize M3.attrN an = an2 at *
                  generalize M3.rightN av = av2 at *
                  have hbn := hbx.below hB hgl
                  have hownW := own_below3 hown hB
                  obtain ⟨a6, e6, rfl⟩ := own_slice hown
                  have n0 := hbn.cell (i := 0) rfl
                  have n1 := hbn.cell (i := 1) rfl
                  have n2 := hbn.cell (i := 2) rfl
                  have n3 := hbn.cell (i := 3) rfl
                  have n4 := hbn.cell (i := 4) rfl
                  have m0 := hba.cell (i := 0) rfl
                  have m1 := hba.cell (i := 1) rfl
                  have hrowW : Row (fun b => b < W.heap.size) W 2 (.slice a6 acc.length e6) acc.length (cellsA acc) := Row.own hownW (fun g hg => (hownW.lt g hg).2)
                  have hVl := Lib.hid (ref03Value (fun b => b < W.heap.size) (.mk 1 nm acc ⟨#[]⟩ []) (.slice a6 acc.length e6) (.slice none 0 0) an2 W (fun _ h => h) hrowW ⟨_, _, _, rfl⟩)
                  have hboW : Below wo.heap.size wo W := hbo.trans (hB.mono hz3)
                  replace hownW := Lib.hid hownW
                  replace hown := Lib.hid hown
                  clear hbx hrowW
                  obtain ⟨o, ho⟩ : ∃ o, M3.valueOf an2 acc = o := ⟨_, rfl⟩
                  change Hid (Calls Try.prog 51 #[Value.agg #[.int .i64 1, .string nm, .slice a6 acc.length e6, .string ⟨#[]⟩, .slice none 0 0], .string an2] W fun e w' => e = .returned (valAns (M3.valueOf an2 acc)) ∧ Below W.heap.size W w') at hVl
                  rw [ho] at hVl htk
                  clear ho
                  go_wp2_with fail
                  cases o with
                  | some sv =>
                    replace htk : Hid (M3.goodA (ats.take (k + 1)) = acc) := htk
                    change Hid (Calls Try.prog 51 #[Value.agg #[.int .i64 1, .string nm, .slice a6 acc.length e6, .string ⟨#[]⟩, .slice none 0 0], .string an2] W fun e w' => e = .returned (.tuple #[.string sv, .bool true]) ∧ Below W.heap.size W w') at hVl
                    refine hVl.out.mono ?_
                    rintro e w6 ⟨rfl, hb6⟩
                    have hbo6 : Below wo.heap.size wo w6 := hboW.trans (hb6.mono (by have := hB.size; omega))
                    have hbn6 := hbn.below hb6 hbn.lt
                    have hown6 := own_below3 hownW.out hb6
                    clear hVl hbn hba n0 n1 n2 n3 n4 m0 m1
                    go_wp2_with fail
                    go_roundw
                    case rel => exact ⟨k + 1, acc, _, by omega, by go_num, hbn6, hown6, by show _ = _; rw [htk.out], hbo6⟩
                    case measure => exact meas_nat hkl
                  | none =>
                    replace htk : Hid (M3.goodA (ats.take (k + 1)) = acc ++ [⟨an2, av2⟩]) := htk
                    change Hid (Calls Try.prog 51 #[Value.agg #[.int .i64 1, .string nm, .slice a6 acc.length e6, .string ⟨#[]⟩, .slice none 0 0], .string an2] W fun e w' => e = .returned (.tuple #[.string ⟨#[]⟩, .bool false]) ∧ Below W.heap.size W w') at hVl
                    refine hVl.out.mono ?_
                    rintro e w6 ⟨rfl, hb6⟩
                    have hbo6 : Below wo.heap.size wo w6 := hboW.trans (hb6.mono (by have := hB.size; omega))
                    have hbn6 := hbn.below hb6 hbn.lt
                    have hba6 := hba.below hb6 hba.lt
                    have hown6 := own_below3 hownW.out hb6
                    have hgl6 := hbn6.lt
                    clear hVl hbn hba n0 n1 n2 n3 n4 m0 m1
                    have n2 := hbn6.cell (i := 2) rfl
                    have m0 := hba6.cell (i := 0) rfl
                    have m1 := hba6.cell (i := 1) rfl
                    have hbo6z : wo.heap.size + 1 ≤ w6.heap.size := by omega
                    go_wp2_with (at_builtin; refine wpList_appK _ [.string an2, .string av2] 2 rfl _ _ 30 51 rfl (wo.heap.size + 1) Try.underlying30 infoA rfl (by omega) _ acc.length (cellsA acc) rfl hown6 _ rfl rfl rfl (by simp [Value.oneCell']) (by omega) (by omega) hbo6z ?_; intro g cp w7 hown7 hgrow7 hat7; have hbn7 := hbn6.keep (hgrow7.block _ hgl6 (fun e => by have := (hown6.lt _ e.symm).1; omega)); have k2 := hbn7.cell (i := 2) rfl; have kf2 := hbn7.free 2)
                    have hbo7 : Below wo.heap.size wo w7 := hbo6.grown hgrow7 (by omega) (fun k hk => by have := (hown6.lt k hk).1; omega)
                    have hbn8 := hbn7.set 2 (.slice (some ⟨g, 0, none⟩) (acc.length + 1) cp)
                    simp only [List.set_cons_succ, List.set_cons_zero] at hbn8
                    have hbo8 : Below wo.heap.size wo (w7.setCell ⟨wo.heap.size, 2, none⟩ (.slice (some ⟨g, 0, none⟩) (acc.length + 1) cp)) := hbo7.setCell (p := ⟨wo.heap.size, 2, none⟩) (Nat.le_refl _) _
                    have hown8 : (w7.setCell ⟨wo.heap.size, 2, none⟩ (.slice (some ⟨g, 0, none⟩) (acc.length + 1) cp)).ownsRow (wo.heap.size + 1) 51 2 (.slice (some ⟨g, 0, none⟩) (acc.length + 1) cp) (acc ++ ([⟨an2, av2⟩] : List Att)).length (cellsA (acc ++ ([⟨an2, av2⟩] : List Att))) := by
                      rw [cellsA_append, List.length_append]
                      exact own_keep hown7 (fun g' hg' => Below.heap_setCell _ _ _ _ (by have := (hown7.lt g' hg').1; simp; omega))
                    clear hown7 hgrow7 hat7 k2 kf2
                    go_roundw
                    case rel => exact ⟨k + 1, acc ++ [⟨an2, av2⟩], _, by omega, by go_num, hbn8, hown8, by show _ = _; rw [htk.out], hbo8⟩
                    case measure => exact meas_nat hkl
              · obtain rfl : k = ats.length := by omega
                rw [List.take_length] at hacc
                have hgg : M3.good1 (.mk kd n ats t ks) = .mk 1 nm acc ⟨#[]⟩ (M3.good ks) := by rw [hacc.out]; exact hg1
                rw [hgg] at hgt
                have hacl : acc.length ≤ ats.length := by rw [hacc.out]; exact M3.goodA_len ats
                have r4 := (hbo.cell (p := ⟨b, off + i * 5 + 4, none⟩) hblo).trans c4
                obtain ⟨a6, e6, rfl⟩ := own_slice hown
                have hkw : M3.weight ks < wt := by have h0 : M3.weight ks < M3.weight l := hwk; omega
                have hkd := Lib.hid (ih.out S (.slice a2 ks.length e2) ks wr hkw (by omega) hs2 (fun c hc => by have := hS c hc; omega) (hkd0.out.below (fun c hc => by have := hS c hc; omega) hbo))
                clear hg1 hgg hacc c0 c1 c2 c3 c4
                go_wp2_with fail
                refine hkd.out.mono ?_
                rintro e w6 ⟨vk6, rfl, ⟨zk, Fk, hownk, hock, hspk⟩, hb6⟩
                obtain ⟨a7, e7, rfl⟩ := own_slice hownk
                have hbo6 : Below wo.heap.size wo w6 := hbo.trans (hb6.mono hz3)
                have hbn6 := hbx.below hb6 hgl
                have hgl6 := hbn6.lt
                have n0 := hbn6.cell (i := 0) rfl
                have n1 := hbn6.cell (i := 1) rfl
                have n2 := hbn6.cell (i := 2) rfl
                have n3 := hbn6.cell (i := 3) rfl
                have n4 := hbn6.cell (i := 4) rfl
                have nf4 := hbn6.free 4
                have hown6 := own_below3 hown hb6
                have hbo7 : Below wo.heap.size wo (w6.setCell ⟨wo.heap.size, 4, none⟩ (.slice a7 (M3.good ks).length e7)) := hbo6.setCell (p := ⟨wo.heap.size, 4, none⟩) (Nat.le_refl _) _
                have hsz7 : (w6.setCell ⟨wo.heap.size, 4, none⟩ (.slice a7 (M3.good ks).length e7)).heap.size = w6.heap.size := by simp [World.setCell]
                have hfar7 : ∀ c, c ≠ wo.heap.size → (w6.setCell ⟨wo.heap.size, 4, none⟩ (.slice a7 (M3.good ks).length e7)).heap[c]? = w6.heap[c]? := fun c hc => Below.heap_setCell _ _ _ _ (by simpa using hc)
                have hownA7 := own_below3 hownA hbo7
                have hsz8 : w.heap.size ≤ (w6.setCell ⟨wo.heap.size, 4, none⟩ (.slice a7 (M3.good ks).length e7)).heap.size := by omega
                have hown7 := own_keep hown6 (w' := w6.setCell ⟨wo.heap.size, 4, none⟩ (.slice a7 (M3.good ks).length e7)) (fun g hg => hfar7 g (by have := (hown6.lt g hg).1; omega))
                have hownk7 := own_keep hownk (w' := w6.setCell ⟨wo.heap.size, 4, none⟩ (.slice a7 (M3.good ks).length e7)) (fun g hg => hfar7 g (by have := (hownk.lt g hg).1; omega))
                have hock7 := OwnC.keep (w' := w6.setCell ⟨wo.heap.size, 4, none⟩ (.slice a7 (M3.good ks).length e7)) _ _ _ (fun c hc => hfar7 c (by have := (hspk.2 c (by simp [hc])).1; omega)) hock
                have hspa := Span.own hown
                replace hsz7 := Lib.hid hsz7
                replace hown7 := Lib.hid hown7
                replace hownk7 := Lib.hid hownk7
                replace hock7 := Lib.hid hock7
                replace hfar7 := Lib.hid hfar7
                replace hown := Lib.hid hown
                replace hown6 := Lib.hid hown6
                replace hownk := Lib.hid hownk
                clear hkd hock
                go_wp2_with (at_builtin; refine wpList_appK _ [.int .i64 1, .string nm, .slice a6 acc.length e6, .string ⟨#[]⟩, .slice a7 (M3.good ks).length e7] 5 rfl _ _ 27 32 rfl w.heap.size Try.underlying27 infoN rfl (by omega) u3 A.length zs rfl hownA7 w6.heap.size hsz7.out (by rfl) rfl (five_one _ _ _ _ _ _ _ _ _) (by omega) (by omega) hsz8 ?_; intro g cp w5 hown5 hgrow5 hat5)
                have hb5 : Below w.heap.size w w5 := below_own (hb.trans (hbo7.mono hz)) hownA7 hgrow5 hsz8 (Nat.le_refl _)
                have hfr5 : Fresh w5 w.heap.size (.slice (some ⟨g, 0, none⟩) (A.length + 1) cp) (A ++ [.mk 1 nm acc ⟨#[]⟩ (M3.good ks)]) := by
                  refine Fresh.snoc (W := w6.setCell ⟨wo.heap.size, 4, none⟩ (.slice a7 (M3.good ks).length e7)) (mid := wo.heap.size) (F := F) (zs2 := zk) (F2 := Fk) rfl hown5 hgrow5 hat5 (OwnC.keep _ _ _ (fun c h => hbo7.block c (hspA.out.2 c (by simp [h])).2) hocA.out) hspA.out (own_base hown7.out (fun _ _ => Nat.zero_le _)) (own_base hownk7.out (fun _ _ => Nat.zero_le _)) hock7.out ?_ hz (by have := hsz7.out; omega)
                  have h1 := Span.append hspa hspk (by omega) hb6.size
                  exact h1.mono (by omega) (by have := hsz7.out; omega)
                clear hown5 hgrow5 hat5
                go_roundw
                case rel => exact ⟨i + 1, by omega, by go_num, by rw [hgt.out]; exact hfr5, hb5⟩
                case measure => exact meas_nat hlt
      · rw [if_neg hk1] at hg1
        have hkk : M3.kindN kd = kd := by
          unfold M3.kindN at hk1 ⊢
          split at hk1
          · exact absurd rfl hk1
          · rename_i h; rw [if_neg h]
        rw [hkk] at hg1 hk1
        have hk23 : kd = 2 ∨ kd = 3 := by
          have := M3.kindN_in kd
          rw [hkk] at this
          omega
        obtain ⟨x1, w1, hc1, s1, b1⟩ := conv_bytes (wo.alloc (.cells #[.int .i64 kd, .string ⟨#[]⟩, .slice none 0 0, .string ⟨#[]⟩, .slice none 0 0] 32)) t (by omega)
        have hR := Lib.hid (ref01Right x1 _ w1 s1 (by show t.size ≤ _; omega))
        have hkd1 : (kd != 1) = true := by simp [bne]; omega
        have hkd2 : ¬ (kd < 1) := by omega
        have hkd3 : ¬ (3 < kd) := by omega
        have hbx0 := Box.new wo 32 [.int .i64 kd, .string ⟨#[]⟩, .slice none 0 0, .string ⟨#[]⟩, .slice none 0 0]
        have hbo0 : Below wo.heap.size wo (wo.alloc (.cells #[.int .i64 kd, .string ⟨#[]⟩, .slice none 0 0, .string ⟨#[]⟩, .slice none 0 0] 32)) := (Below.refl _ _).alloc (Nat.le_refl _) _
        have hso : (wo.alloc (.cells #[.int .i64 kd, .string ⟨#[]⟩, .slice none 0 0, .string ⟨#[]⟩, .slice none 0 0] 32)).heap.size = wo.heap.size + 1 := by simp
        have hz1 := b1.size
        rw [hso] at hz1
        have hbo1 : Below wo.heap.size wo w1 := hbo0.trans (b1.mono (by omega))
        have hbx1 := (show Box (wo.alloc (.cells #[.int .i64 kd, .string ⟨#[]⟩, .slice none 0 0, .string ⟨#[]⟩, .slice none 0 0] 32)) _ _ _ from hbx0).below b1 (by omega)
        have hgx : M3.good1 (.mk kd n ats t ks) = .mk kd ⟨#[]⟩ [] ⟨(M1.right t.data.toList).toArray⟩ [] := hg1
        have hrl := M1.right_len t.data.toList
        have htl : t.data.toList.length ≤ 30 := hts
        rw [hgx] at hgt
        clear hg1 hgx hbo0 hbx0 b1
        replace hso := Lib.hid hso
        generalize M1.right t.data.toList = rt at *
        go_wp2_with fail
        refine hR.out.mono ?_
        rintro e w2 ⟨rfl, hb2⟩
        have hz2 := hb2.size
        have hbo2 : Below wo.heap.size wo w2 := hbo1.trans (hb2.mono (by omega))
        have hbx2 := hbx1.below hb2 (by omega)
        have d0 := hbx2.cell (i := 0) rfl
        have d1 := hbx2.cell (i := 1) rfl
        have d2 := hbx2.cell (i := 2) rfl
        have d3 := hbx2.cell (i := 3) rfl
        have d4 := hbx2.cell (i := 4) rfl
        have f3 := hbx2.free 3
        have hbo3 : Below wo.heap.size wo (w2.setCell ⟨wo.heap.size, 3, none⟩ (.string ⟨rt.toArray⟩)) := hbo2.setCell (p := ⟨wo.heap.size, 3, none⟩) (Nat.le_refl _) _
        have hsz3 : (w2.setCell ⟨wo.heap.size, 3, none⟩ (.string ⟨rt.toArray⟩)).heap.size = w2.heap.size := by simp [World.setCell]
        have hsz4 : w.heap.size ≤ (w2.setCell ⟨wo.heap.size, 3, none⟩ (.string ⟨rt.toArray⟩)).heap.size := by omega
        have hown3 := own_below3 hownA hbo3
        replace hsz3 := Lib.hid hsz3
        clear hR hbx1 s1 c0 c1 c2 c3 c4
        go_wp2_with (at_builtin; refine wpList_appK _ [.int .i64 kd, .string ⟨#[]⟩, .slice none 0 0, .string ⟨rt.toArray⟩, .slice none 0 0] 5 rfl _ _ 27 32 rfl w.heap.size Try.underlying27 infoN rfl (by omega) u3 A.length zs rfl hown3 w2.heap.size hsz3.out (by rfl) rfl (five_one _ _ _ _ _ _ _ _ _) (by omega) (by omega) hsz4 ?_; intro g cp w5 hown5 hgrow5 hat5)
        have hb5 : Below w.heap.size w w5 := below_own (hb.trans (hbo3.mono hz)) hown3 hgrow5 hsz4 (Nat.le_refl _)
        have hfr5 : Fresh w5 w.heap.size (.slice (some ⟨g, 0, none⟩) (A.length + 1) cp) (A ++ [.mk kd ⟨#[]⟩ [] ⟨rt.toArray⟩ []]) := by
          refine Fresh.snoc (W := w2.setCell ⟨wo.heap.size, 3, none⟩ (.string ⟨rt.toArray⟩)) (mid := wo.heap.size) (F := F) (zs2 := []) (F2 := []) rfl hown5 hgrow5 hat5 (OwnC.keep _ _ _ (fun b h => hbo3.block b (hspA.out.2 b (by simp [h])).2) hocA.out) hspA.out (World.ownsRow_nil _ _ _ _) (World.ownsRow_nil _ _ _ _) (OwnC.nil _) (Span.nil _ _) hz (by have := hsz3.out; omega)
        clear hown5 hgrow5 hat5
        go_roundw
        case rel => exact ⟨i + 1, by omega, by go_num, by rw [hgt.out]; exact hfr5, hb5⟩
        case measure => exact meas_nat hlt
    · obtain rfl : i = l.length := by omega
      rw [List.take_length] at hf
      have hlg := good_len l
      have htx := good_txt l hsm.out
      have hM := Lib.hid (ref03MergeF w.heap.size u3 _ wr hz hf (by omega) (by omega))
      obtain ⟨a3, c3, hu3⟩ : ∃ a c, u3 = .slice a (M3.goodN l).length c := by obtain ⟨_, _, h, _⟩ := hf; exact own_slice h
      subst hu3
      clear hf hlg htx
      go_wp2_with fail
      refine hM.out.mono ?_
      rintro e w1 ⟨v1, rfl, hfr1, hb1⟩
      have hbb : Below w.heap.size w w1 := hb.trans (hb1.mono hz)
      clear hM
      replace hfr1 := Lib.hid hfr1
      go_wp2_with fail
      go_ret
      exact ⟨v1, rfl, hfr1.out, hbb⟩

end Go.Proofs.Ytbnfaijkmbgpmaa

/- The reference of layer 3: nodes that may be, made of any: Good. -/
namespace Go.Proofs.Ytbnfaijkmbgpmaa
open Go.RowKit

theorem fitN_all {l : List Nd} : FitN l ↔ ∀ x ∈ l, Fit1 x ∧ FitN x.kids := by
  induction l with
  | nil => simp [fitN_nil]
  | cons x r ih => rw [fitN_cons, ih]; simp; exact ⟨fun h => ⟨⟨h.1, h.2.1⟩, h.2.2⟩, fun h => ⟨h.1.1, h.1.2, h.2⟩⟩
theorem fit_merged {l : List Nd} (h : FitN l) (ht : txtN l ≤ 268435456) : FitN (M3.merge l) := by
  have h1 := M3.merge_all (P := fun x => (x.name.size ≤ 268435456 ∧ (∀ a ∈ x.attrs, a.name.size ≤ 268435456 ∧ a.value.size ≤ 268435456) ∧ 1 + x.attrs.length + M3.weight x.kids ≤ 1000000) ∧ FitN x.kids)
    (fun x y hx _ _ _ => by rw [M3.withText_name, M3.withText_attrs, M3.withText_kids]; exact hx) l (fun x hx => by have := fitN_all.1 h x hx; exact ⟨⟨this.1.1, this.1.2.2.1, this.1.2.2.2⟩, this.2⟩)
  have h2 := txtN_merge l
  refine fitN_all.2 (fun x hx => ?_)
  obtain ⟨⟨q1, q2, q3⟩, q4⟩ := h1 x hx
  have := txtN_mem hx
  exact ⟨⟨q1, by omega, q2, q3⟩, q4⟩
theorem fit_goodN (l : List Nd) : Sm30 l → M3.weight l ≤ 1000 → FitN (M3.goodN l) := by
  induction l using Nd.ind with
  | h0 => intro _ _; rw [M3.goodN_nil]; exact fitN_nil
  | h1 k n ats t ks r ih1 ih2 =>
    intro hs hw
    obtain ⟨s1, s2, s3⟩ := sm_cons.1 hs
    rw [M3.weight_cons] at hw
    have hw : 1 + ats.length + M3.weight ks + M3.weight r ≤ 1000 := hw
    rw [M3.goodN_cons, M3.good1_mk]
    refine fitN_cons.2 ?_
    by_cases h : M3.kindN k = 1
    · rw [if_pos h]
      have h1 := M3.goodA_len ats
      have h2 := weight_merge (M3.goodN ks)
      have h3 := good_weight ks
      have h4 := good_txt ks s2
      have h5 := M3.length_le_weight ks
      have h6 := M3.wordN_size n 30 s1.1 (by omega)
      refine ⟨⟨by show (M3.wordN n).size ≤ _; omega, by show (⟨#[]⟩ : ByteArray).size ≤ _; decide, ?_, by show 1 + (M3.goodA ats).length + M3.weight (M3.merge (M3.goodN ks)) ≤ _; omega⟩, fit_merged (ih1 s2 (by omega)) (by omega), ih2 s3 (by omega)⟩
      refine M3.goodA_all ats (fun a ha => ?_)
      have h7 := s1.2.2 a ha
      have h8 := M3.attrN_size a.name 30 h7.1 (by omega)
      have h9 := M3.rightN_size a.value
      exact ⟨by show (M3.attrN a.name).size ≤ _; omega, by show (M3.rightN a.value).size ≤ _; omega⟩
    · rw [if_neg h]
      have h6 := M3.rightN_size t
      have h7 : t.size ≤ 30 := s1.2.1
      refine ⟨⟨by show (⟨#[]⟩ : ByteArray).size ≤ _; decide, by show (M3.rightN t).size ≤ _; omega, fun a ha => (nomatch (show a ∈ ([] : List Att) from ha)), by show 1 + 0 + M3.weight [] ≤ _; rw [M3.weight_nil]; omega⟩, fitN_nil, ih2 s3 (by omega)⟩
theorem fit_szN (l : List Nd) (h : FitN l) : SzN l := by
  induction l using Nd.ind with
  | h0 => rw [SzN]; trivial
  | h1 k n ats t ks r ih1 ih2 =>
    obtain ⟨h1, h2, h3⟩ := fitN_cons.1 h
    refine szN_cons.2 ⟨⟨by have := h1.1; omega, by have := h1.2.1; omega, fun a ha => by have := h1.2.2.1 a ha; omega⟩, ih1 h2, ih2 h3⟩
/-- Nodes that may be, of any: what 'Good' tells. -/
def gdN (l : List Nd) : List Nd := M3.good (fewN l)
theorem gd_weight (l : List Nd) : M3.weight (gdN l) ≤ 240 :=
  Nat.le_trans (weight_merge _) (Nat.le_trans (good_weight _) (fewN_weight l))
theorem gd_fit (l : List Nd) : FitN (gdN l) := by
  have h1 := fewN_weight l
  have h2 := good_txt (fewN l) (few_sm l)
  have h3 := M3.length_le_weight (fewN l)
  exact fit_merged (fit_goodN _ (few_sm l) (by omega)) (by omega)
theorem gd_may (l : List Nd) : M3.mayE false (gdN l) = 0 := M3.good_may _

set_option maxHeartbeats 2000000 in
theorem ref03Good (S : Nat → Prop) (v : Value) (l : List Nd) (w : World) (hS : ∀ b, S b → b < w.heap.size) (hr : RepN S w v l) (hsz : SzN l) :
    Calls Try.prog 14 #[v] w (FreshPost (gdN l) w) := by
  have hF := Lib.hid (ref03Few S v l w hS hr hsz)
  obtain ⟨a, cap, rfl⟩ := hr.slice
  go_enter Try.func14, Try.ntmps14
  go_wp2_with fail
  refine hF.out.mono ?_
  rintro e w1 ⟨v1, rfl, hm1, hb1⟩
  have hG := Lib.hid (ref03good (M3.weight (fewN l) + 1) _ v1 (fewN l) w1 (by omega) (by have := fewN_weight l; omega) (few_sm l) (fun b h => h.2) hm1.rep)
  obtain ⟨a1, c1, rfl⟩ := hm1.rep.slice
  clear hm1 hF
  go_wp2_with fail
  refine hG.out.mono ?_
  rintro e w2 ⟨v2, rfl, hf2, hb2⟩
  have hb := bt hb1 hb2
  have hf3 := Lib.hid (hf2.base hb1.size)
  obtain ⟨a2, c2, rfl⟩ := hf2.rep.slice
  clear hf2
  go_wp2_with fail
  go_ret
  exact ⟨_, rfl, hf3.out, hb⟩
end Go.Proofs.Ytbnfaijkmbgpmaa

/- Reference 6: has; fits. -/
namespace Go.Proofs.Ytbnfaijkmbgpmaa
open Go.RowKit

theorem has_short (w l : List UInt8) (h : l.length < w.length) : M6.hasB w l = false := by
  induction l with
  | nil => rfl
  | cons c r ih =>
    unfold M6.hasB at *
    have hp : w.isPrefixOf (c :: r) = false := by
      rw [Bool.eq_false_iff]
      intro e
      have := (List.isPrefixOf_iff_prefix.1 e).length_le
      omega
    have ih := ih (by simp only [List.length_cons] at h; omega)
    rw [M5.findL, hp, if_neg Bool.false_ne_true]
    simp only [decide_eq_false_iff_not, List.length_cons] at ih ⊢
    omega

theorem has_cons (w : List UInt8) (c : UInt8) (r : List UInt8) : M6.hasB w (c :: r) = (w.isPrefixOf (c :: r) || M6.hasB w r) := by
  unfold M6.hasB
  rw [M5.findL]
  cases hp : w.isPrefixOf (c :: r)
  · rw [if_neg Bool.false_ne_true, Bool.false_or, Bool.eq_iff_iff]
    simp
  · rw [if_pos rfl]
    simp

theorem has_step (wd : List UInt8) (s : ByteArray) (i n : Nat) (hn : wd.length = n) (h0 : 0 < n) (h : i + n ≤ s.size) : M6.hasB wd (s.data.toList.drop i) = (((s.extract i (i + n)).data.toList == wd) || M6.hasB wd (s.data.toList.drop (i + 1))) := by
  subst hn
  have hx : (s.extract i (i + wd.length)).data.toList = (s.data.toList.drop i).take wd.length := by rw [Lib.extract_data, Nat.add_sub_cancel_left]
  rw [hx]
  have e : wd.isPrefixOf (s.data.toList.drop i) = ((s.data.toList.drop i).take wd.length == wd) := by
    rw [Bool.eq_iff_iff, List.isPrefixOf_iff_prefix, List.prefix_iff_eq_take, beq_iff_eq]
    exact eq_comm
  rw [← e, drop_cons s i (by omega), has_cons]

set_option maxHeartbeats 1000000 in
theorem ref06has (s wd : ByteArray) (w : World) (hs : s.size ≤ 1073741824) (h0 : 0 < wd.size) (hw : wd.size ≤ 1000) :
    Calls Try.prog 41 #[.string s, .string wd] w fun e w' => e = .returned (.bool (M6.hasB wd.data.toList s.data.toList)) ∧ w = w' := by
  obtain ⟨R, hR⟩ : ∃ R, Hid (R = M6.hasB wd.data.toList (s.data.toList.drop 0)) := ⟨_, rfl⟩
  rw [show M6.hasB wd.data.toList s.data.toList = R from hR.out.symm]
  obtain ⟨n, hn⟩ : ∃ n, wd.size = n := ⟨_, rfl⟩
  have hwl : wd.data.toList.length = n := hn
  obtain ⟨wo, rfl⟩ : ∃ wo : World, wo = w := ⟨_, rfl⟩
  go_enter Try.func41, Try.ntmps41
  go_wp2_with fail
  go_loopw [5] (fun u5 wr => wo = wr ∧ ∃ i : Nat, i ≤ s.size + 1 ∧ u5 = .int .i64 (i : Int) ∧ Hid (R = M6.hasB wd.data.toList (s.data.toList.drop i))) (fun u5 _ => s.size + 1 - (intOf u5).toNat)
  case atStart => exact ⟨rfl, 0, by omega, rfl, hR⟩
  case round =>
    obtain ⟨rfl, i, hi, rfl, hv⟩ := hrel
    by_cases hlt : i + n ≤ s.size
    · have hd := hv.out.trans (has_step wd.data.toList s i n hwl (by omega) hlt)
      clear hv
      have hlt2 : i < s.size + 1 := by omega
      cases ht : ((s.extract i (i + n)).data.toList == wd.data.toList)
      · rw [ht, Bool.false_or] at hd
        have ht2 : ((s.extract i (i + n)).toList == wd.toList) = false := by rw [Lib.toList_data, Lib.toList_data]; exact ht
        clear ht
        replace hd := Lib.hid hd
        go_wp2_with fail
        go_roundw
        case rel => exact ⟨trivial, i + 1, by omega, by go_num, hd⟩
        case measure => exact meas_nat hlt2
      · rw [ht, Bool.true_or] at hd
        have ht2 : ((s.extract i (i + n)).toList == wd.toList) = true := by rw [Lib.toList_data, Lib.toList_data]; exact ht
        clear ht
        replace hd := Lib.hid hd
        go_wp2_with fail
        go_ret
        exact ⟨by rw [hd.out]; rfl, rfl⟩
    · have hd := hv.out.trans (has_short _ _ (by rw [List.length_drop, hwl]; show s.size - i < n; omega))
      replace hd := Lib.hid hd
      clear hv
      go_wp2_with fail
      go_ret
      exact ⟨by rw [hd.out]; rfl, rfl⟩

set_option maxHeartbeats 4000000 in
set_option maxRecDepth 100000 in
theorem ref06Fits (p : ByteArray) (x : Nd) (va vk : Value) (w : World) (hva : ∃ a n c, va = .slice a n c) (hvk : ∃ a n c, vk = .slice a n c) (hp : p.size ≤ 268435456) (ht : x.text.size ≤ 268435456) :
    Calls Try.prog 16 #[.string p, x.val va vk] w (BoolB (M6.fitsB p x) w) := by
  obtain ⟨a1, n1, c1, rfl⟩ := hva
  obtain ⟨a2, n2, c2, rfl⟩ := hvk
  have hV := Lib.hid (fun w => ref03Void p w)
  have hR := Lib.hid (fun w => ref03Raw p w)
  have hC := Lib.hid (fun w => ref06Closes p x.name w)
  obtain ⟨k, n, ats, tx, ks⟩ := x
  simp only [Nd.text, Nd.name] at hC ht
  have hz : (tx ++ ⟨#[60, 47]⟩ ++ p ++ ⟨#[62]⟩ : ByteArray).size ≤ 1073741824 := by
    simp only [ByteArray.size_append]
    show tx.size + 2 + p.size + 1 ≤ _
    omega
  have hE := fun w => ref05Ends (tx ++ ⟨#[60, 47]⟩ ++ p ++ ⟨#[62]⟩ : ByteArray) p w hz (by omega)
  rw [held_data] at hE
  have hv : Hid ((endV (M5.endsL ([60, 47] ++ p.data.toList) (tx.data.toList ++ ([60, 47] ++ p.data.toList ++ [62]))) == (tx.size : Int)) = M6.endsHere p.data.toList tx.data.toList) := by
    show _ = _
    rw [endV_some]
    rfl
  generalize M5.endsL ([60, 47] ++ p.data.toList) (tx.data.toList ++ ([60, 47] ++ p.data.toList ++ [62])) = o at *
  replace hE := Lib.hid hE
  have hfit : M6.fitsB p (.mk k n ats tx ks) = if M3.voidB p.data.toList then false else if M3.rawB p.data.toList then (k == 2) && M6.endsHere p.data.toList tx.data.toList else !(decide (k = 1) && M6.closesB p.data.toList n.data.toList) := rfl
  rw [hfit]
  clear hfit hz
  show Calls Try.prog 16 #[.string p, .agg #[.int .i64 k, .string n, .slice a1 n1 c1, .string tx, .slice a2 n2 c2]] w (BoolB _ w)
  have z1 : ¬ 9223372036854775807 < tx.size + 2 := by omega
  have z2 : ¬ 9223372036854775807 < tx.size + 2 + p.size := by omega
  have z3 : ¬ 9223372036854775807 < tx.size + 2 + p.size + 1 := by omega
  obtain ⟨wo, rfl⟩ : ∃ wo : World, wo = w := ⟨_, rfl⟩
  have bx := Box.new wo 32 [.int .i64 k, .string n, .slice a1 n1 c1, .string tx, .slice a2 n2 c2]
  have hb0 : Below wo.heap.size wo (wo.alloc (.cells #[.int .i64 k, .string n, .slice a1 n1 c1, .string tx, .slice a2 n2 c2] 32)) := (Below.refl _ wo).alloc (Nat.le_refl _) _
  cases hvd : M3.voidB p.data.toList
  · cases hr : M3.rawB p.data.toList
    · generalize M6.closesB p.data.toList n.data.toList = cb at *
      rw [hvd] at hV
      rw [hr] at hR
      rw [if_neg Bool.false_ne_true, if_neg Bool.false_ne_true]
      cases hk : (k == 1)
      · rw [show decide (k = 1) = false from hk]
        have hk3 : (k != 1) = true := by rw [bne, hk]; rfl
        go_enter Try.func16, Try.ntmps16
        go_wp2_with fail
        refine (hV.out _).mono ?_
        rintro e w1 ⟨rfl, rfl⟩
        go_wp2_with fail
        refine (hR.out _).mono ?_
        rintro e w1 ⟨rfl, rfl⟩
        go_wp2_with fail
        refine (hC.out _).mono ?_
        rintro e w1 ⟨rfl, hb1⟩
        have bx1 := bx.below hb1 (by simp)
        have p0 := bx1.cell (i := 0) rfl
        go_wp2_with fail
        go_ret
        exact ⟨rfl, bt hb0 hb1⟩
      · rw [show decide (k = 1) = true from hk]
        have hk3 : (k != 1) = false := by rw [bne, hk]; rfl
        go_enter Try.func16, Try.ntmps16
        go_wp2_with fail
        refine (hV.out _).mono ?_
        rintro e w1 ⟨rfl, rfl⟩
        go_wp2_with fail
        refine (hR.out _).mono ?_
        rintro e w1 ⟨rfl, rfl⟩
        go_wp2_with fail
        refine (hC.out _).mono ?_
        rintro e w1 ⟨rfl, hb1⟩
        have bx1 := bx.below hb1 (by simp)
        have p0 := bx1.cell (i := 0) rfl
        go_wp2_with fail
        go_ret
        exact ⟨by cases cb <;> rfl, bt hb0 hb1⟩
    · rw [hvd] at hV
      rw [hr] at hR
      rw [if_neg Bool.false_ne_true, if_pos rfl]
      cases hk : (k == 2)
      · rw [Bool.false_and]
        go_enter Try.func16, Try.ntmps16
        go_wp2_with fail
        refine (hV.out _).mono ?_
        rintro e w1 ⟨rfl, rfl⟩
        go_wp2_with fail
        refine (hR.out _).mono ?_
        rintro e w1 ⟨rfl, rfl⟩
        go_wp2_with fail
        go_quiet (fail)
        go_wp2_with fail
        go_ret
        exact ⟨rfl, below_drewN hb0 _⟩
      · obtain rfl : k = 2 := by simpa using hk
        go_enter Try.func16, Try.ntmps16
        go_wp2_with fail
        refine (hV.out _).mono ?_
        rintro e w1 ⟨rfl, rfl⟩
        go_wp2_with fail
        refine (hR.out _).mono ?_
        rintro e w1 ⟨rfl, rfl⟩
        go_wp2_with fail
        have hsz : (wo.alloc (.cells #[.int .i64 2, .string n, .slice a1 n1 c1, .string tx, .slice a2 n2 c2] 32)).heap.size = wo.heap.size + 1 := by simp
        obtain ⟨W0, hW0⟩ : ∃ W0, wo.alloc (.cells #[.int .i64 2, .string n, .slice a1 n1 c1, .string tx, .slice a2 n2 c2] 32) = W0 := ⟨_, rfl⟩
        change Box (wo.alloc (.cells #[.int .i64 2, .string n, .slice a1 n1 c1, .string tx, .slice a2 n2 c2] 32)) _ _ _ at bx
        rw [hW0] at bx hb0 hsz ⊢
        clear hW0
        have p0 := bx.cell (i := 0) rfl
        have p3 := bx.cell (i := 3) rfl
        refine wp_region_known (n := 18) ([some (.pointer (some ⟨wo.heap.size, 0, none⟩)), some (.int .i64 2), some (.bool true), some (.bool true), some (.pointer (some ⟨wo.heap.size, 3, none⟩)), some (.string tx), some (.string (tx ++ ⟨#[60, 47]⟩)), some (Value.string p), some (.string (tx ++ ⟨#[60, 47]⟩ ++ p)), some (.string (tx ++ ⟨#[60, 47]⟩ ++ p ++ ⟨#[62]⟩)), some (Value.string p), some (.int .i64 (endV o)), some (.pointer (some ⟨wo.heap.size, 3, none⟩)), some (.string tx), some (.int .i64 (tx.size : Int)), some (.bool (endV o == (tx.size : Int))), some (.bool (endV o == (tx.size : Int))), some (.bool (endV o == (tx.size : Int)))] : List (Option Value)) (fun t => ⟨#[Value.string p, Value.agg #[Value.int IntKind.i64 2, Value.string n, Value.slice a1 n1 c1, Value.string tx, Value.slice a2 n2 c2], undef, Value.pointer (some ⟨wo.heap.size, 0, none⟩), t 17, Value.bool false, Value.bool true, undef, Value.string p, Value.bool false, Value.string p, Value.bool true, Value.bool false, Value.bool true, t 0, t 1, t 2, t 3, t 4, t 5, t 6, t 7, t 8, t 9, t 10, t 11, t 12, t 13, t 14, t 15, t 16, undef, undef, undef, undef, undef, undef, undef, undef, undef, undef, undef], []⟩) (fun f t W => Below W0.heap.size W0 W) (fun j => match j with | 0 => undef | 1 => undef | 2 => undef | 3 => undef | 4 => undef | 5 => undef | 6 => undef | 7 => undef | 8 => undef | 9 => undef | 10 => undef | 11 => undef | 12 => undef | 13 => undef | 14 => undef | 15 => undef | 16 => undef | 17 => Value.bool false | _ => undef) (by kernel_rfl) (by rfl) (by rfl) (by kernel_rfl) rfl ?i0 ?step ?fin
        case i0 =>
          exact (Below.refl _ W0).drew
        case step =>
          intro j0 hj0 f t W hfi hwt hk2 hI
          have s0 := cell_of_below hI p0 (by omega)
          have s3 := cell_of_below hI p3 (by omega)
          obtain rfl | rfl | rfl | rfl | rfl | rfl | rfl | rfl | rfl | rfl | rfl | rfl | rfl | rfl | rfl | rfl | rfl | rfl : j0 = 0 ∨ j0 = 1 ∨ j0 = 2 ∨ j0 = 3 ∨ j0 = 4 ∨ j0 = 5 ∨ j0 = 6 ∨ j0 = 7 ∨ j0 = 8 ∨ j0 = 9 ∨ j0 = 10 ∨ j0 = 11 ∨ j0 = 12 ∨ j0 = 13 ∨ j0 = 14 ∨ j0 = 15 ∨ j0 = 16 ∨ j0 = 17 := by omega
          · -- operation 0
            replace hI := Lib.hid hI
            replace hk2 := Lib.hid hk2
            clear hwt
            refine wpOp_step rfl (fun K hK => ?_)
            go_simp
            exact hK _ _ ⟨_, by simp [updT], hk2.out.at_ rfl, hI.out⟩
          · -- operation 1
            have e0 : t 0 = .pointer (some ⟨wo.heap.size, 0, none⟩) := hk2 0 _ (hwt 0 (by kernel_rfl)) rfl
            replace hI := Lib.hid hI
            replace hk2 := Lib.hid hk2
            clear hwt
            refine wpOp_step rfl (fun K hK => ?_)
            go_simp
            exact hK _ _ ⟨_, by simp [updT, e0], hk2.out.at_ rfl, hI.out⟩
          · -- operation 2
            have e1 : t 1 = .int .i64 2 := hk2 1 _ (hwt 1 (by kernel_rfl)) rfl
            replace hI := Lib.hid hI
            replace hk2 := Lib.hid hk2
            clear hwt
            refine wpOp_step rfl (fun K hK => ?_)
            go_simp
            exact hK _ _ ⟨_, by simp [updT, e1], hk2.out.at_ rfl, hI.out⟩
          · -- operation 3
            have e2 : t 2 = .bool true := hk2 2 _ (hwt 2 (by kernel_rfl)) rfl
            replace hI := Lib.hid hI
            replace hk2 := Lib.hid hk2
            clear hwt
            refine wpOp_step rfl (fun K hK => ?_)
            go_simp
            exact hK _ _ ⟨_, by simp [updT, e2], hk2.out.at_ rfl, hI.out⟩
          · -- operation 4
            have e3 : t 3 = .bool true := hk2 3 _ (hwt 3 (by kernel_rfl)) rfl
            replace hI := Lib.hid hI
            replace hk2 := Lib.hid hk2
            clear hwt
            refine wpOp_step rfl (fun K hK => ?_)
            go_simp
            exact hK _ _ ⟨_, by simp [updT, e3], hk2.out.at_ rfl, hI.out⟩
          · -- operation 5
            have e3 : t 3 = .bool true := hk2 3 _ (hwt 3 (by kernel_rfl)) rfl
            have e4 : t 4 = .pointer (some ⟨wo.heap.size, 3, none⟩) := hk2 4 _ (hwt 4 (by kernel_rfl)) rfl
            replace hI := Lib.hid hI
            replace hk2 := Lib.hid hk2
            clear hwt
            refine wpOp_step rfl (fun K hK => ?_)
            go_simp
            exact hK _ _ ⟨_, by simp [updT, e3, e4], hk2.out.at_ rfl, hI.out⟩
          · -- operation 6
            have e3 : t 3 = .bool true := hk2 3 _ (hwt 3 (by kernel_rfl)) rfl
            have e5 : t 5 = .string tx := hk2 5 _ (hwt 5 (by kernel_rfl)) rfl
            replace hI := Lib.hid hI
            replace hk2 := Lib.hid hk2
            clear hwt
            refine wpOp_step rfl (fun K hK => ?_)
            go_simp
            exact hK _ _ ⟨_, by simp [updT, e3, e5], hk2.out.at_ rfl, hI.out⟩
          · -- operation 7
            have e3 : t 3 = .bool true := hk2 3 _ (hwt 3 (by kernel_rfl)) rfl
            replace hI := Lib.hid hI
            replace hk2 := Lib.hid hk2
            clear hwt
            refine wpOp_step rfl (fun K hK => ?_)
            go_simp
            exact hK _ _ ⟨_, by simp [updT, e3], hk2.out.at_ rfl, hI.out⟩
          · -- operation 8
            have e3 : t 3 = .bool true := hk2 3 _ (hwt 3 (by kernel_rfl)) rfl
            have e6 : t 6 = .string (tx ++ ⟨#[60, 47]⟩) := hk2 6 _ (hwt 6 (by kernel_rfl)) rfl
            have e7 : t 7 = Value.string p := hk2 7 _ (hwt 7 (by kernel_rfl)) rfl
            replace hI := Lib.hid hI
            replace hk2 := Lib.hid hk2
            clear hwt
            refine wpOp_step rfl (fun K hK => ?_)
            go_simp
            exact hK _ _ ⟨_, by simp [updT, e3, e6, e7], hk2.out.at_ rfl, hI.out⟩
          · -- operation 9
            have e3 : t 3 = .bool true := hk2 3 _ (hwt 3 (by kernel_rfl)) rfl
            have e8 : t 8 = .string (tx ++ ⟨#[60, 47]⟩ ++ p) := hk2 8 _ (hwt 8 (by kernel_rfl)) rfl
            replace hI := Lib.hid hI
            replace hk2 := Lib.hid hk2
            clear hwt
            refine wpOp_step rfl (fun K hK => ?_)
            go_simp
            exact hK _ _ ⟨_, by simp [updT, e3, e8], hk2.out.at_ rfl, hI.out⟩
          · -- operation 10
            have e3 : t 3 = .bool true := hk2 3 _ (hwt 3 (by kernel_rfl)) rfl
            replace hI := Lib.hid hI
            replace hk2 := Lib.hid hk2
            clear hwt
            refine wpOp_step rfl (fun K hK => ?_)
            go_simp
            exact hK _ _ ⟨_, by simp [updT, e3], hk2.out.at_ rfl, hI.out⟩
          · -- operation 11
            have e3 : t 3 = .bool true := hk2 3 _ (hwt 3 (by kernel_rfl)) rfl
            have e9 : t 9 = .string (tx ++ ⟨#[60, 47]⟩ ++ p ++ ⟨#[62]⟩) := hk2 9 _ (hwt 9 (by kernel_rfl)) rfl
            have e10 : t 10 = Value.string p := hk2 10 _ (hwt 10 (by kernel_rfl)) rfl
            have hC := Lib.hid (hE.out W)
            replace hk2 := Lib.hid hk2
            replace hI := Lib.hid hI
            clear hwt
            refine wpOp_step rfl (fun K hK => ?_)
            go_simp
            refine hC.out.mono ?_
            rintro e w5 ⟨rfl, hb5⟩
            exact hK _ _ ⟨_, by simp [updT, e3, e9, e10], hk2.out.at_ rfl, hI.out.trans (hb5.mono hI.out.size)⟩
          · -- operation 12
            have e3 : t 3 = .bool true := hk2 3 _ (hwt 3 (by kernel_rfl)) rfl
            replace hI := Lib.hid hI
            replace hk2 := Lib.hid hk2
            clear hwt
            refine wpOp_step rfl (fun K hK => ?_)
            go_simp
            exact hK _ _ ⟨_, by simp [updT, e3], hk2.out.at_ rfl, hI.out⟩
          · -- operation 13
            have e3 : t 3 = .bool true := hk2 3 _ (hwt 3 (by kernel_rfl)) rfl
            have e12 : t 12 = .pointer (some ⟨wo.heap.size, 3, none⟩) := hk2 12 _ (hwt 12 (by kernel_rfl)) rfl
            replace hI := Lib.hid hI
            replace hk2 := Lib.hid hk2
            clear hwt
            refine wpOp_step rfl (fun K hK => ?_)
            go_simp
            exact hK _ _ ⟨_, by simp [updT, e3, e12], hk2.out.at_ rfl, hI.out⟩
          · -- operation 14
            have e3 : t 3 = .bool true := hk2 3 _ (hwt 3 (by kernel_rfl)) rfl
            have e13 : t 13 = .string tx := hk2 13 _ (hwt 13 (by kernel_rfl)) rfl
            replace hI := Lib.hid hI
            replace hk2 := Lib.hid hk2
            clear hwt
            refine wpOp_step rfl (fun K hK => ?_)
            go_simp
            exact hK _ _ ⟨_, by simp [updT, e3, e13], hk2.out.at_ rfl, hI.out⟩
          · -- operation 15
            have e3 : t 3 = .bool true := hk2 3 _ (hwt 3 (by kernel_rfl)) rfl
            have e11 : t 11 = .int .i64 (endV o) := hk2 11 _ (hwt 11 (by kernel_rfl)) rfl
            have e14 : t 14 = .int .i64 (tx.size : Int) := hk2 14 _ (hwt 14 (by kernel_rfl)) rfl
            replace hI := Lib.hid hI
            replace hk2 := Lib.hid hk2
            clear hwt
            refine wpOp_step rfl (fun K hK => ?_)
            go_simp
            exact hK _ _ ⟨_, by simp [updT, e3, e11, e14], hk2.out.at_ rfl, hI.out⟩
          · -- operation 16
            have e3 : t 3 = .bool true := hk2 3 _ (hwt 3 (by kernel_rfl)) rfl
            have e15 : t 15 = .bool (endV o == (tx.size : Int)) := hk2 15 _ (hwt 15 (by kernel_rfl)) rfl
            replace hI := Lib.hid hI
            replace hk2 := Lib.hid hk2
            clear hwt
            refine wpOp_step rfl (fun K hK => ?_)
            go_simp
            exact hK _ _ ⟨_, by simp [updT, e3, e15], hk2.out.at_ rfl, hI.out⟩
          · -- operation 17
            have e16 : t 16 = .bool (endV o == (tx.size : Int)) := hk2 16 _ (hwt 16 (by kernel_rfl)) rfl
            replace hI := Lib.hid hI
            replace hk2 := Lib.hid hk2
            clear hwt
            refine wpOp_step rfl (fun K hK => ?_)
            go_simp
            exact hK _ _ ⟨_, by simp [updT, e16], hk2.out.at_ rfl, hI.out⟩
        case fin =>
          intro f t W hall hk2 hI
          have e17 := hk2 17 _ (hall 17 (by omega)) rfl
          clear hk2 hall
          dsimp only
          rw [e17]
          go_wp2_with fail
          go_ret
          exact ⟨by rw [← hv.out]; rfl, bt hb0 hI⟩
  · rw [if_pos rfl]
    rw [hvd] at hV
    go_enter Try.func16, Try.ntmps16
    go_wp2_with fail
    refine (hV.out _).mono ?_
    rintro e w1 ⟨rfl, rfl⟩
    go_wp2_with fail
    refine (hR.out _).mono ?_
    rintro e w1 ⟨rfl, rfl⟩
    go_wp2_with fail
    go_ret
    exact ⟨rfl, hb0⟩
end Go.Proofs.Ytbnfaijkmbgpmaa
