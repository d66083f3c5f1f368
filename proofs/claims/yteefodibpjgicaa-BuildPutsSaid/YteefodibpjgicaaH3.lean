/- Texts joined: Cut, Open3, Clone, Clone2, Shal, Ref03m, DomM, Refs, Refs2, DomM2, Clone3, DomM3, Ref03f, DomM4, Same, Same2, Same3, Ref03s, Small3, Law03m, Ref03y, Ref03z, Law03g, Ref03x. -/
import Derived.Deep.RegionHeld3
import Derived.Deep.AppendLies
import Derived.ChangeArms
import Derived.DataReads
import Derived.ChangeOld
import Derived.Laws.MakeOwn
import Derived.Laws.Entries
import Derived.StillTailTactics
import Derived.BigCall
import Derived.Deep.QuietTactic
import Derived.BigQuiet
import Derived.IntWalk
import Derived.Test.YteefodibpjgicaaH1
import Derived.Test.YteefodibpjgicaaH2
/- The reference's cut: nodes, few of all. -/
namespace Go.Proofs.Yteefodibpjgicaa
open Go.RowKit

theorem infoA : (Try.prog.info? 65).map (fun i => (i.zero, i.size, i.bytes)) = some (some (.agg #[.string ⟨#[]⟩, .string ⟨#[]⟩]), 2, 32) := by kernel_rfl
theorem infoN : (Try.prog.info? 44).map (fun i => (i.zero, i.size, i.bytes)) = some (some (.agg #[.int .i64 0, .string ⟨#[]⟩, .slice none 0 0, .string ⟨#[]⟩, .slice none 0 0]), 5, 88) := by kernel_rfl

set_option maxHeartbeats 1000000 in
theorem ref03few (s : ByteArray) (w : World) (hs : s.size ≤ 9223372036854775807) : Calls Try.prog 34 #[.string s] w fun e w' => e = .returned (.string (M3.few s)) ∧ w = w' := by
  unfold M3.few
  by_cases h : 30 < s.size
  · rw [if_pos h]
    go_enter Try.func34, Try.ntmps34
    go_wp2
    go_ret
    exact ⟨rfl, rfl⟩
  · rw [if_neg h]
    go_enter Try.func34, Try.ntmps34
    go_wp2
    go_ret
    exact ⟨rfl, rfl⟩

/-- All texts are shorter than any that there can be. -/
def SzN : List Nd → Prop
  | [] => True
  | .mk _ n a t ks :: r => (n.size ≤ 9223372036854775807 ∧ t.size ≤ 9223372036854775807 ∧ ∀ x ∈ a, x.name.size ≤ 9223372036854775807 ∧ x.value.size ≤ 9223372036854775807) ∧ SzN ks ∧ SzN r
termination_by l => SizeOf.sizeOf l
def Sz1 (x : Nd) : Prop := x.name.size ≤ 9223372036854775807 ∧ x.text.size ≤ 9223372036854775807 ∧ ∀ a ∈ x.attrs, a.name.size ≤ 9223372036854775807 ∧ a.value.size ≤ 9223372036854775807
theorem szN_cons {x : Nd} {r : List Nd} : SzN (x :: r) ↔ Sz1 x ∧ SzN x.kids ∧ SzN r := by cases x; rw [SzN]; rfl
theorem szN_mem {x : Nd} {l : List Nd} (h : SzN l) (hx : x ∈ l) : Sz1 x ∧ SzN x.kids := by
  induction l with
  | nil => cases hx
  | cons y r ih =>
    obtain ⟨h1, h2, h3⟩ := szN_cons.1 h
    rcases List.mem_cons.1 hx with rfl | hx
    · exact ⟨h1, h2⟩
    · exact ih h3 hx

/-- What a call hands back that it has made: a row of its own, from B on, and what stands in it. -/
def Made (w' : World) (B : Nat) (v : Value) (l : List Nd) : Prop := ∃ zs, w'.ownsRow B 44 5 v l.length zs ∧ RepC (fun b => B ≤ b ∧ b < w'.heap.size ∧ v.ownBlock ≠ some b) w' zs l
theorem Made.rep {w' : World} {B : Nat} {v : Value} {l : List Nd} (h : Made w' B v l) : RepN (fun b => B ≤ b ∧ b < w'.heap.size) w' v l := by
  obtain ⟨zs, h1, h2⟩ := h
  exact ⟨zs, Row.own h1 (fun g hg => h1.lt g hg), RepC.mono (fun b hb => ⟨hb.1, hb.2.1⟩) _ _ h2⟩
def CutPost (l : List Nd) (m : Nat) (w : World) (e : Ending) (w' : World) : Prop := ∃ v', e = .returned (.tuple #[v', .int .i64 ((M3.cut l m).2 : Int)]) ∧ Made w' w.heap.size v' (M3.cut l m).1 ∧ Below w.heap.size w w'

theorem cells_one {x : Nd} {a1 a2 : Option Addr} {n1 c1 n2 c2 : Nat} : ∀ u ∈ x.cells (.slice a1 n1 c1) (.slice a2 n2 c2), u.oneCell' = true := by
  intro u hu
  simp at hu
  rcases hu with rfl | rfl | rfl | rfl | rfl <;> rfl

/-- 'append(out, x)' behind nodes that the call has made. -/
theorem Made.snoc {W w5 : World} {B g : Nat} {u : Value} {A : List Nd} {zs : List Value} {x : Nd} {va vk : Value} {cap n : Nat} {SA SX : Nat → Prop} (hn : n = A.length + 1)
    (hown5 : w5.ownsRow B 44 5 (.slice (some ⟨g, 0, none⟩) n cap) n (zs ++ x.cells va vk)) (hgrow : W.grownBy w5 u.ownBlock) (hat : u.ownBlock = some g ∨ W.heap.size ≤ g)
    (hA : RepC SA W zs A) (hSA : ∀ b, SA b → B ≤ b ∧ b < W.heap.size ∧ u.ownBlock ≠ some b)
    (hx : RepV SX W x va vk) (hSX : ∀ b, SX b → B ≤ b ∧ b < W.heap.size ∧ u.ownBlock ≠ some b) : Made w5 B (.slice (some ⟨g, 0, none⟩) n cap) (A ++ [x]) := by
  subst hn
  have hk : ∀ b, (B ≤ b ∧ b < W.heap.size ∧ u.ownBlock ≠ some b) → w5.heap[b]? = W.heap[b]? := fun b h => hgrow.block b h.2.1 (fun e => h.2.2 e.symm)
  have hm : ∀ b, (B ≤ b ∧ b < W.heap.size ∧ u.ownBlock ≠ some b) → B ≤ b ∧ b < w5.heap.size ∧ (Value.slice (some ⟨g, 0, none⟩) (A.length + 1) cap).ownBlock ≠ some b := fun b h => ⟨h.1, Nat.lt_of_lt_of_le h.2.1 hgrow.size, fun e => by
    simp [Value.ownBlock] at e
    subst e
    rcases hat with h1 | h1
    · exact h.2.2 h1
    · omega⟩
  refine ⟨zs ++ x.cells va vk, by simpa using hown5, RepC.append (RepC.single ((hx.keep fun b h => hk b (hSX b h)).mono fun b h => hm b (hSX b h))) _ _ ?_⟩
  exact RepC.mono (fun b h => hm b (hSA b h)) _ _ (RepC.keep (fun b h => hk b (hSA b h)) _ _ hA)
theorem own_slice {w : World} {B : Nat} {e : TypeId} {k n : Nat} {v : Value} {xs : List Value} (h : w.ownsRow B e k v n xs) : ∃ a c, v = .slice a n c := by
  rcases h.2 with ⟨rfl, rfl⟩ | ⟨g, cap, _, rfl, _⟩
  · exact ⟨_, _, rfl⟩
  · exact ⟨_, _, rfl⟩
theorem own_keep {w w' : World} {B : Nat} {e : TypeId} {k n : Nat} {v : Value} {xs : List Value} (h : w.ownsRow B e k v n xs) (hk : ∀ g, v.ownBlock = some g → w'.heap[g]? = w.heap[g]?) : w'.ownsRow B e k v n xs := by
  refine ⟨h.1, ?_⟩
  rcases h.2 with hn | ⟨g, cap, cur, rfl, hb, hg, rest⟩
  · exact .inl hn
  · exact .inr ⟨g, cap, cur, rfl, hb, (hk g rfl).trans hg, rest⟩
theorem own_base {w : World} {B B' : Nat} {e : TypeId} {k n : Nat} {v : Value} {xs : List Value} (h : w.ownsRow B e k v n xs) (hb : ∀ g, v.ownBlock = some g → B' ≤ g) : w.ownsRow B' e k v n xs := by
  refine ⟨h.1, ?_⟩
  rcases h.2 with hn | ⟨g, cap, cur, rfl, _, rest⟩
  · exact .inl hn
  · exact .inr ⟨g, cap, cur, rfl, hb g rfl, rest⟩

set_option maxHeartbeats 8000000 in
set_option maxRecDepth 100000 in
theorem ref03Cut (m : Nat) : ∀ (S : Nat → Prop) (v : Value) (l : List Nd) (w : World), (∀ b, S b → b < w.heap.size) → RepN S w v l → SzN l → m ≤ 1000 →
    Calls Try.prog 26 #[v, .int .i64 (m : Int)] w (CutPost l m w) := by
  induction m using Nat.strongRecOn with
  | ind m ih =>
    intro S v l w hS hr hsz hm
    obtain ⟨a, cap, rfl⟩ := hr.slice
    obtain ⟨_, hlc, hcm⟩ := hr.len
    go_enter Try.func26, Try.ntmps26
    go_wp2_with (fail)
    go_loopw [1, 6, 7] (fun u1 u6 u7 wr => ∃ (i mi : Nat) (A : List Nd), i ≤ l.length ∧ u7 = .int .i64 (i : Int) ∧ u1 = .int .i64 (mi : Int) ∧ A.length + mi ≤ m ∧ Made wr w.heap.size u6 A ∧ Below w.heap.size w wr ∧ Hid ((M3.cut l m).1 = A ++ (M3.cut (l.drop i) mi).1 ∧ (M3.cut l m).2 = (M3.cut (l.drop i) mi).2)) (fun _ _ u7 _ => l.length - (intOf u7).toNat)
    case atStart => exact ⟨0, m, [], by omega, rfl, rfl, by simp, ⟨[], World.ownsRow_nil _ _ _ _, RepC.nil _ _⟩, Below.refl _ _, rfl, rfl⟩
    case round =>
      obtain ⟨i, mi, A, hi, rfl, rfl, hAm, ⟨zs, hown, hrepA⟩, hb, hc⟩ := hrel
      obtain ⟨wo, rfl⟩ : ∃ wo : World, wo = wr := ⟨_, rfl⟩
      have hz := hb.size
      by_cases hlt : i < l.length
      · by_cases hmi : 0 < mi
        · obtain ⟨mj, rfl⟩ : ∃ mj, mi = mj + 1 := ⟨mi - 1, by omega⟩
          obtain ⟨b, off, va, vk, rfl, hSb, c0, c1, c2, c3, c4, hrv⟩ := (hr.below hS hb).at_ i hlt
          have hbl := hS b hSb
          have hdr : l.drop i = l[i] :: l.drop (i + 1) := List.drop_eq_getElem_cons hlt
          rw [hdr, M3.cut_cons] at hc
          obtain ⟨hs1, hs2⟩ := szN_mem hsz (List.getElem_mem hlt)
          clear hdr
          generalize l[i] = x at *
          obtain ⟨hat, hkd⟩ := hrv
          obtain ⟨a1, cap1, rfl⟩ := hat.slice
          obtain ⟨_, hlc1, hcm1⟩ := hat.len
          obtain ⟨a2, cap2, rfl⟩ := hkd.slice
          have hx0 := Box.new wo 44 (x.cells (.slice a1 x.attrs.length cap1) (.slice a2 x.kids.length cap2))
          have hz1 : wo.heap.size < (wo.alloc (.cells (x.cells (.slice a1 x.attrs.length cap1) (.slice a2 x.kids.length cap2)).toArray 44)).heap.size := by simp
          have hbz : Below wo.heap.size wo (wo.alloc (.cells (x.cells (.slice a1 x.attrs.length cap1) (.slice a2 x.kids.length cap2)).toArray 44)) := (Below.refl _ _).alloc (Nat.le_refl _) _
          have hfn := Lib.hid (fun W => ref03few x.name W hs1.1)
          have hft := Lib.hid (fun W => ref03few x.text W hs1.2.1)
          have hihk := fun W h1 h2 => ih mj (by omega) S (.slice a2 x.kids.length cap2) x.kids W h1 h2 hs2 (by omega)
          replace hihk := Lib.hid hihk
          go_wp2_with (fail)
          refine (hfn.out _).mono ?_
          rintro e w1 ⟨rfl, rfl⟩
          go_wp2_with (fail)
          refine (hft.out _).mono ?_
          rintro e w1 ⟨rfl, rfl⟩
          go_wp2_with (fail)
          have bx1 := Box.new wo 44 [.int .i64 x.kind, .string (M3.few x.name), .slice a1 x.attrs.length cap1, .string (M3.few x.text), .slice a2 x.kids.length cap2]
          have hbz1 : Below wo.heap.size wo (wo.alloc (.cells #[.int .i64 x.kind, .string (M3.few x.name), .slice a1 x.attrs.length cap1, .string (M3.few x.text), .slice a2 x.kids.length cap2] 44)) := (Below.refl _ _).alloc (Nat.le_refl _) _
          have hsz1 : (wo.alloc (.cells #[.int .i64 x.kind, .string (M3.few x.name), .slice a1 x.attrs.length cap1, .string (M3.few x.text), .slice a2 x.kids.length cap2] 44)).heap.size = wo.heap.size + 1 := by simp
          change Box (wo.alloc (.cells #[.int .i64 x.kind, .string (M3.few x.name), .slice a1 x.attrs.length cap1, .string (M3.few x.text), .slice a2 x.kids.length cap2] 44)) _ _ _ at bx1
          clear hx0 hz1 hbz hfn hft c0 c1 c2 c3 c4
          obtain ⟨W1, hW1⟩ : ∃ W1, wo.alloc (.cells #[.int .i64 x.kind, .string (M3.few x.name), .slice a1 x.attrs.length cap1, .string (M3.few x.text), .slice a2 x.kids.length cap2] 44) = W1 := ⟨_, rfl⟩
          rw [hW1] at bx1 hbz1 hsz1 ⊢
          clear hW1
          refine (hihk.out W1 (fun b h => by have := hS b h; omega) (hkd.keep fun b h => hbz1.block b (by have := hS b h; omega))).mono ?_
          rintro e w2 ⟨v2, rfl, ⟨zs2, hown2, hrep2⟩, hb2⟩
          obtain ⟨a3, cap3, rfl⟩ := own_slice hown2
          have hle2 := M3.cut_le x.kids mj
          have hz2 := hb2.size
          have bx2 := bx1.below hb2 (by omega)
          have d2 := bx2.cell (i := 2) rfl
          have d4 := bx2.cell (i := 4) rfl
          have f4 := bx2.free 4
          have hbr2 : Below wo.heap.size wo w2 := hbz1.trans (hb2.mono (by omega))
          clear hihk bx1
          replace hsz1 := Lib.hid hsz1
          generalize hkc : (M3.cut x.kids mj).1 = ks' at *
          generalize hmc : (M3.cut x.kids mj).2 = m2 at *
          replace hkc := Lib.hid hkc
          replace hmc := Lib.hid hmc
          go_wp2_with (fail)
          have bx3 := bx2.set 4 (.slice a3 ks'.length cap3)
          have hbr3 : Below wo.heap.size wo (w2.setCell ⟨wo.heap.size, 4, none⟩ (.slice a3 ks'.length cap3)) := hbr2.setCell (p := ⟨wo.heap.size, 4, none⟩) (Nat.le_refl _) _
          have hne2 : ∀ b, W1.heap.size ≤ b → (w2.setCell ⟨wo.heap.size, 4, none⟩ (.slice a3 ks'.length cap3)).heap[b]? = w2.heap[b]? := fun b h => Below.heap_setCell _ _ _ _ (by have := hsz1.out; simp; omega)
          have hz3 : (w2.setCell ⟨wo.heap.size, 4, none⟩ (.slice a3 ks'.length cap3)).heap.size = w2.heap.size := by simp [World.setCell]
          have hown3 := own_keep hown2 (fun g hg => hne2 g (hown2.lt g hg).1)
          have hrep3 := RepC.keep (fun b hb => hne2 b hb.1) _ _ hrep2
          simp only [List.set_cons_succ, List.set_cons_zero] at bx3
          obtain ⟨W2, hW2⟩ : ∃ W2, w2.setCell ⟨wo.heap.size, 4, none⟩ (.slice a3 ks'.length cap3) = W2 := ⟨_, rfl⟩
          rw [hW2] at bx3 hbr3 hz3 hown3 hrep3 ⊢
          clear hW2 hne2 d2 d4 f4 bx2 hown2 hrep2 hbr2
          have hgl := bx3.lt
          obtain ⟨i0, hi0, hz00, hz01, hz02⟩ := info_parts infoA
          replace hkd := Lib.hid hkd
          replace hrep3 := Lib.hid hrep3
          replace hown3 := Lib.hid hown3
          replace hrepA := Lib.hid hrepA
          replace hown := Lib.hid hown
          have hSz2 : ∀ b, S b → b < W2.heap.size := fun b h => by have := hS b h; omega
          go_loopw [9, 10] (fun u9 u10 wr => ∃ k : Nat, k ≤ 5 ∧ k ≤ x.attrs.length ∧ u10 = .int .i64 (k : Int) ∧ wr.ownsRow W2.heap.size 65 2 u9 k (cellsA ((x.attrs.take k).map M3.fewA)) ∧ Below W2.heap.size W2 wr) (fun _ u10 _ => 5 - (intOf u10).toNat)
          case atStart => exact ⟨0, by omega, by omega, rfl, World.ownsRow_nil _ _ _ _, Below.refl _ _⟩
          case round =>
            obtain ⟨k, hk5, hkl, rfl, hown4, hb4⟩ := hrel
            have hz4 := hb4.size
            have bx4 := bx3.below hb4 hgl
            have e2 := bx4.cell (i := 2) rfl
            by_cases hk : k < 5 ∧ k < x.attrs.length
            · obtain ⟨hk1, hk2⟩ := hk
              obtain ⟨b', off', rfl, hSb', q0, q1⟩ := (hat.keep (w' := wr) (fun b h => ((hb4.block b (hSz2 b h)).trans (hbr3.block b (by have := hS b h; omega))))).atA k hk2
              have hbl' := hS b' hSb'
              obtain ⟨hsa, hsb⟩ := hs1.2.2 _ (List.getElem_mem hk2)
              have htk : cellsA ((x.attrs.take (k + 1)).map M3.fewA) = cellsA ((x.attrs.take k).map M3.fewA) ++ [.string (M3.few x.attrs[k].name), .string (M3.few x.attrs[k].value)] := by
                rw [List.take_succ_eq_append_getElem hk2, List.map_append, cellsA_append]; rfl
              generalize x.attrs[k].name = nm at *
              generalize x.attrs[k].value = vl at *
              replace htk := Lib.hid htk
              have ag : u9.ownBlock ≠ some wo.heap.size := fun e => by have := (hown4.lt _ e).1; omega
              have ab : u9.ownBlock ≠ some b' := fun e => by have := (hown4.lt _ e).1; omega
              go_wp2_with (fail)
              go_region_held3 (fun w' => w'.cell? ⟨wo.heap.size, 2, none⟩ = some (.slice (some ⟨b', off', none⟩) x.attrs.length cap1) ∧ w'.cell? ⟨b', off' + k * 2, none⟩ = some (.string nm) ∧ w'.cell? ⟨b', off' + k * 2 + 1, none⟩ = some (.string vl))
                (first
                  | go_keep
                  | (go_split_ands
                     refine ⟨?_, ?_, ?_⟩
                     · (rw [hgrow.cell_far _ (by simp; omega) (Ne.symm ag)]; assumption)
                     · (rw [hgrow.cell_far _ (by simp; omega) (Ne.symm ab)]; assumption)
                     · (rw [hgrow.cell_far _ (by simp; omega) (Ne.symm ab)]; assumption)))
                (first
                  | (go_at_call 34; refine (ref03few _ _ (by assumption)).mono ?_; rintro e w' ⟨rfl, rfl⟩)
                  | (refine step_append_lies _ (by rfl) _ _ _ (by rfl) W2.heap.size 65 i0 _ 2 32 Try.underlying31 hi0 hz00 hz01 hz02 rfl (by omega) u9 k _ (by rfl) ((hown4.alloc _).drew)
                      ⟨wr.heap.size, 0, none⟩ 1 1 [.string (M3.few nm), .string (M3.few vl)] (by rfl) (by rfl) (World.news_of_block (cs := #[.string (M3.few nm), .string (M3.few vl)]) (t := 65) (fr := (0, 0)) (heap_alloc_new wr _)) (by simp [Value.oneCell'])
                      (by omega) (by unfold maxLen; omega) (by omega) (by simp; omega) (wr.heap.size + 1) (by simp) ?_; intro gg cap' w5 hown5 hgrow hat5 hlt5))
              have hb5 : Below W2.heap.size W2 w5 := ((hb4.alloc hz4 (.cells #[.string (M3.few nm), .string (M3.few vl)] 65)).drew).grown hgrow (by simp; omega) (fun g hg => (hown4.lt g hg).1)
              have hown6 : w5.ownsRow W2.heap.size 65 2 (.slice (some ⟨gg, 0, none⟩) (k + 1) cap') (k + 1) (cellsA ((x.attrs.take (k + 1)).map M3.fewA)) := by rw [htk.out]; exact hown5
              clear hown5 hgrow hat5
              go_wp2
              go_roundw
              case rel => exact ⟨k + 1, by omega, by omega, by go_num, hown6, hb5⟩
              case measure => simp [intOf]; omega
            · have htk : (x.attrs.take 5).map M3.fewA = (x.attrs.take k).map M3.fewA := by
                rcases Nat.lt_or_ge k 5 with h | h
                · rw [List.take_of_length_le (show x.attrs.length ≤ 5 by omega), List.take_of_length_le (show x.attrs.length ≤ k by omega)]
                · rw [show k = 5 by omega]
              have hlk : ((x.attrs.take k).map M3.fewA).length = k := by simp; omega
              rw [← htk] at hown4 hlk
              generalize hat' : (x.attrs.take 5).map M3.fewA = ats' at *
              replace hat' := Lib.hid hat'
              replace htk := Lib.hid htk
              replace hlk := Lib.hid hlk
              obtain ⟨a4, cap4, rfl⟩ := own_slice hown4
              have f2 := bx4.free 2
              have e0 := bx4.cell (i := 0) rfl
              have e1 := bx4.cell (i := 1) rfl
              have e3 := bx4.cell (i := 3) rfl
              have e4 := bx4.cell (i := 4) rfl
              have hbr4 : Below wo.heap.size wo wr := hbr3.trans (hb4.mono (by omega))
              obtain ⟨j0, hj0, hj00, hj01, hj02⟩ := info_parts infoN
              have hownW := own_keep hown.out (fun g hg => hbr4.block g (hown.out.lt g hg).2)
              have hlz := hbr4.size
              have hz5 : (wr.setCell ⟨wo.heap.size, 2, none⟩ (.slice a4 k cap4)).heap.size = wr.heap.size := by simp [World.setCell]
              have hb5 : Below wo.heap.size wo (wr.setCell ⟨wo.heap.size, 2, none⟩ (.slice a4 k cap4)) := hbr4.setCell (p := ⟨wo.heap.size, 2, none⟩) (Nat.le_refl _) _
              have hfar : ∀ b, b ≠ wo.heap.size → (wr.setCell ⟨wo.heap.size, 2, none⟩ (.slice a4 k cap4)).heap[b]? = wr.heap[b]? := fun b h => Below.heap_setCell _ _ _ _ (by simpa using h)
              have hownW2 := own_keep hownW (fun g hg => hfar g (by have := (hownW.lt g hg); have := (hown.out.lt g hg).2; omega))
              have hnews : ∀ j u, ([.int .i64 x.kind, .string (M3.few x.name), .slice a4 k cap4, .string (M3.few x.text), .slice a3 ks'.length cap3] : List Value)[j]? = some u →
                  ((wr.setCell ⟨wo.heap.size, 2, none⟩ (.slice a4 k cap4)).alloc (.cells #[.int .i64 x.kind, .string (M3.few x.name), .slice a4 k cap4, .string (M3.few x.text), .slice a3 ks'.length cap3] 44)).cell? ((⟨wr.heap.size, 0, none⟩ : Addr).add j) = some u := by
                rw [← hz5]
                exact World.news_of_block (cs := #[.int .i64 x.kind, .string (M3.few x.name), .slice a4 k cap4, .string (M3.few x.text), .slice a3 ks'.length cap3]) (t := 44) (fr := (0, 0)) (heap_alloc_new _ _)
              -- the new node, as it lies behind the store
              have hatN := own_keep hown4 (fun g hg => hfar g (by have := (hown4.lt g hg).1; omega))
              have hownK := own_keep (own_keep hown3.out (fun g hg => hb4.block g (hown3.out.lt g hg).2)) (fun g hg => hfar g (by have := (hown3.out.lt g hg).1; have := hsz1.out; omega))
              have hrepK : RepC (fun b => W1.heap.size ≤ b ∧ b < w2.heap.size ∧ (Value.slice a3 ks'.length cap3).ownBlock ≠ some b) (wr.setCell ⟨wo.heap.size, 2, none⟩ (.slice a4 k cap4)) zs2 ks' :=
                RepC.keep (fun b h => (hfar b (by have := h.1; have := hsz1.out; omega)).trans (hb4.block b (by have := h.2.1; omega))) _ _ hrep3.out
              have hrepA2 : RepC (fun b => w.heap.size ≤ b ∧ b < wo.heap.size ∧ u6.ownBlock ≠ some b) (wr.setCell ⟨wo.heap.size, 2, none⟩ (.slice a4 k cap4)) zs A := RepC.keep (fun b h => hb5.block b h.2.1) _ _ hrepA.out
              have hlA := hown.out.1
              have hownK3 := Lib.hid (fun g hg => (hown3.out.lt g hg).2)
              replace hrepK := Lib.hid hrepK
              replace hrepA2 := Lib.hid hrepA2
              replace hatN := Lib.hid hatN
              replace hownK := Lib.hid hownK
              replace hnews := Lib.hid hnews
              replace hfar := Lib.hid hfar
              replace hz5 := Lib.hid hz5
              clear hrepA hrep3 hown3 hown4 hownW
              have hgb6 : u6.ownBlock ≠ some wo.heap.size := fun e => by have := (hown.out.lt _ e).2; omega
              have htest : (decide (k < x.attrs.length) = false) ∨ (decide (k < x.attrs.length) = true ∧ decide ((k : Int) < 5) = false) := by
                by_cases h : k < x.attrs.length
                · exact Or.inr ⟨decide_eq_true (by omega), decide_eq_false (by omega)⟩
                · exact Or.inl (decide_eq_false (by omega))
              clear hk
              rcases htest with htest | ⟨htest, htest2⟩
              all_goals
                go_wp2_with (at_builtin; refine wpList_append_lies _ rfl _ _ 26 rfl w.heap.size 44 j0 _ 5 88 Try.underlying26 hj0 hj00 hj01 hj02 rfl (by omega) u6 A.length zs rfl (hownW2.alloc _) ⟨wr.heap.size, 0, none⟩ 1 1 _ rfl rfl hnews.out (by simp [Value.oneCell']) (by omega) (by unfold maxLen; omega) (by omega) (by simp; omega) _ rfl ?_; intro gg cap' w5 hown5 hgrow hat5 hlt5)
                have hb6 : Below w.heap.size w w5 := (((hb.trans (hb5.mono hz)).alloc (by have := hz5.out; omega) (.cells #[.int .i64 x.kind, .string (M3.few x.name), .slice a4 _ cap4, .string (M3.few x.text), .slice a3 ks'.length cap3] 44))).grown hgrow (by simp; have := hz5.out; omega) (fun g hg => (hown.out.lt g hg).1)
                have hmade : Made w5 w.heap.size (.slice (some ⟨gg, 0, none⟩) (A.length + 1) cap') (A ++ [.mk x.kind (M3.few x.name) ats' (M3.few x.text) ks']) := by
                  refine Made.snoc (u := u6) (va := .slice a4 _ cap4) (vk := .slice a3 ks'.length cap3) (SA := fun b => w.heap.size ≤ b ∧ b < wo.heap.size ∧ u6.ownBlock ≠ some b) (SX := fun b => W1.heap.size ≤ b ∧ b < wr.heap.size) rfl hown5 hgrow ?_ ?_ ?_ ?_ ?_
                  · rcases hat5 with h | h
                    · exact Or.inl h
                    · exact Or.inr (by rw [h]; exact Nat.le_refl _)
                  · exact RepC.keep (fun b h => Below.heap_alloc _ _ _ (by have := hz5.out; have := h.2.1; omega)) _ _ hrepA2.out
                  · exact fun b h => ⟨h.1, by simp; have := hz5.out; have := h.2.1; omega, h.2.2⟩
                  · refine RepV.keep (w := wr.setCell ⟨wo.heap.size, 2, none⟩ (.slice a4 _ cap4)) ⟨?_, zs2, ?_, ?_⟩ (fun b h => Below.heap_alloc _ _ _ (by have := hz5.out; have := h.2; omega))
                    · have h1 := Row.own hatN.out (S := fun b => W1.heap.size ≤ b ∧ b < wr.heap.size) (fun g hg => by have := hatN.out.lt g hg; have := hz5.out; omega)
                      simpa only [Nd.attrs, hlk.out] using h1
                    · exact Row.own hownK.out (fun g hg => by have h1 := hownK.out.lt g hg; have h2 := hz5.out; have h3 := hownK3.out g hg; omega)
                    · exact RepC.mono (fun b h => ⟨h.1, by have := h.2.1; omega⟩) _ _ hrepK.out
                  · exact fun b h => ⟨by have := h.1; have := hsz1.out; omega, by simp; have := hz5.out; have := h.2; omega, fun e => by have := (hown.out.lt b e).2; have := h.1; have := hsz1.out; omega⟩
                clear hown5 hgrow hat5
                replace hmade := Lib.hid hmade
                go_roundw
                case rel =>
                  refine ⟨i + 1, m2, A ++ [.mk x.kind (M3.few x.name) ats' (M3.few x.text) ks'], by omega, by go_num, rfl, by simp; omega, hmade.out, hb6, ?_⟩
                  show _ ∧ _
                  rw [hc.1, hc.2]
                  simp
                case measure => simp [intOf]; omega
        · obtain rfl : mi = 0 := by omega
          rw [M3.cut_zero] at hc
          have hc1 := Lib.hid (show (M3.cut l m).1 = A by rw [hc.1]; simp)
          have hc2 := Lib.hid hc.2
          clear hc hmi
          replace hown := Lib.hid hown
          replace hrepA := Lib.hid hrepA
          go_wp2
          go_ret2
          exact ⟨u6, by rw [hc2.out]; rfl, by rw [hc1.out]; exact ⟨zs, hown.out, hrepA.out⟩, hb⟩
      · obtain rfl : i = l.length := by omega
        rw [List.drop_length, M3.cut_nil] at hc
        have hc1 := Lib.hid (show (M3.cut l m).1 = A by rw [hc.1]; simp)
        have hc2 := Lib.hid hc.2
        clear hc
        replace hown := Lib.hid hown
        replace hrepA := Lib.hid hrepA
        go_wp2
        go_ret2
        exact ⟨u6, by rw [hc2.out]; rfl, by rw [hc1.out]; exact ⟨zs, hown.out, hrepA.out⟩, hb⟩

def fewN (l : List Nd) : List Nd := (M3.cut l 40).1
def MadePost (l : List Nd) (w : World) (e : Ending) (w' : World) : Prop := ∃ v', e = .returned v' ∧ Made w' w.heap.size v' l ∧ Below w.heap.size w w'
set_option maxHeartbeats 1000000 in
theorem ref03Few (S : Nat → Prop) (v : Value) (l : List Nd) (w : World) (hS : ∀ b, S b → b < w.heap.size) (hr : RepN S w v l) (hsz : SzN l) :
    Calls Try.prog 15 #[v] w (MadePost (fewN l) w) := by
  have h := Lib.hid (fun W h1 h2 => ref03Cut 40 S v l W h1 h2 hsz (by omega))
  obtain ⟨a, cap, rfl⟩ := hr.slice
  go_enter Try.func15, Try.ntmps15
  go_wp2_with (fail)
  refine (h.out w hS hr).mono ?_
  rintro e w1 ⟨v1, rfl, hm1, hb1⟩
  replace hm1 := Lib.hid hm1
  go_wp2
  go_ret
  exact ⟨v1, rfl, hm1.out, hb1⟩
end Go.Proofs.Yteefodibpjgicaa

/- What came in: nodes, as deep as they are, read as nodes. -/
namespace Go.Proofs.Yteefodibpjgicaa
open Go.RowKit Go.ChangeShapes Go.WideShapes

theorem exists_list {α : Type} {p : Nat → α → Prop} (n : Nat) (h : ∀ i, i < n → ∃ a, p i a) : ∃ l : List α, l.length = n ∧ ∀ i (hi : i < l.length), p i l[i] := by
  induction n with
  | zero => exact ⟨[], rfl, fun i hi => by simp at hi⟩
  | succ n ih =>
    obtain ⟨l, hl, hp⟩ := ih (fun i hi => h i (by omega))
    obtain ⟨a, ha⟩ := h n (by omega)
    refine ⟨l ++ [a], by simp [hl], fun i hi => ?_⟩
    rw [List.length_append, List.length_cons, List.length_nil] at hi
    by_cases hin : i < l.length
    · rw [List.getElem_append_left hin]; exact hp i hin
    · rw [List.getElem_append_right (by omega)]
      simp only [List.getElem_singleton]
      rw [show i = n by omega]; exact ha
theorem flat_get {α : Type} (f : α → List Value) (k : Nat) (hf : ∀ x, (f x).length = k) (_ : 0 < k) : ∀ (L : List α) (j : Nat) (u : Value), (L.flatMap f)[j]? = some u → ∃ (i r : Nat) (h : i < L.length), j = i * k + r ∧ r < k ∧ (f L[i])[r]? = some u := by
  intro L
  induction L with
  | nil => intro j u h; simp at h
  | cons x r ih =>
    intro j u h
    rw [List.flatMap_cons] at h
    by_cases hj : j < k
    · rw [List.getElem?_append_left (by rw [hf]; exact hj)] at h
      exact ⟨0, j, by simp, by simp, hj, h⟩
    · rw [List.getElem?_append_right (by rw [hf]; omega), hf] at h
      obtain ⟨i, q, hi, h1, h2, h3⟩ := ih _ _ h
      refine ⟨i + 1, q, by simpa using hi, ?_, h2, by simpa using h3⟩
      rw [Nat.add_mul]; omega
theorem flat_len {α : Type} (f : α → List Value) (k : Nat) (hf : ∀ x, (f x).length = k) (L : List α) : (L.flatMap f).length = L.length * k := by
  induction L with
  | nil => simp
  | cons x r ih => rw [List.flatMap_cons, List.length_append, ih, hf, List.length_cons, Nat.add_mul]; omega
theorem cells_cell {w : World} {base : Nat} {a : Addr} {n : Nat} {cs : List Value} (h : w.cells? base a n = some cs) (hn : 0 < n) : ∃ b off, a = ⟨b, off, none⟩ ∧ b < w.heap.size ∧ ∀ i u, cs[i]? = some u → w.cell? ⟨b, off + i, none⟩ = some u := by
  obtain ⟨_, hl, hc⟩ := World.cells?_some h
  have h0 := hc 0 hn
  rw [List.getElem?_eq_getElem (by omega)] at h0
  obtain ⟨b, off, spot⟩ := a
  have hspot : spot = none := by simpa [Addr.add] using World.cell?_spot h0
  subst hspot
  refine ⟨b, off, rfl, ?_, fun i u hu => ?_⟩
  · have := World.block_lt_of_cell? w _ h0
    rwa [add_plain'] at this
  · have h1 := hc i (by have := (List.getElem?_eq_some_iff.1 hu).1; omega)
    rw [add_plain'] at h1
    rw [h1, hu]

section
variable {H : Type} {enc : TypeId × Value → H} {w : World} {base : Nat} {spare : Nat → Bool} {held : Bool}

/-- A slice of elements of k cells: what each element's cells are known to be. -/
theorem open_rows {t e : TypeId} {k fuel : Nat} {cs : List Value} {x : DataW H × List MemPlace} (ht : Try.prog.underlying t = some (.slice e)) (hC : Try.prog.cellsOf e = k) (hk : 0 < k) (h : DataW.trod enc Try.prog w base spare held fuel t cs = some x)
    {α : Type} (f : α → List Value) (hf : ∀ x, (f x).length = k) (q : α → Prop) (hq : ∀ n cs' y, n < fuel → cs'.length = k → DataW.trod enc Try.prog w base spare held n e cs' = some y → ∃ b : α, cs' = f b ∧ q b) :
    ∃ (v : Value) (L : List α), cs = [v] ∧ Row (fun b => b < w.heap.size) w k v L.length (L.flatMap f) ∧ ∀ b ∈ L, q b := by
  rcases DataW.trod_slice ht h with ⟨rfl, _⟩ | ⟨a, len, cap, elems, rest, n, hn, rfl, _, _, hl, hm, hlen, hel, _, _⟩
  · exact ⟨_, [], rfl, Row.nil _ _ _, fun b hb => by cases hb⟩
  · have key : ∀ i, i < len → ∃ b : α, q b ∧ w.cells? base (a.add (i * k)) k = some (f b) := by
      intro i hi
      have h1 := hel i hi
      rw [List.getElem?_eq_getElem (by omega), hC] at h1
      obtain ⟨cs', h2, h3⟩ := Option.bind_eq_some_iff.1 h1
      obtain ⟨b, rfl, hb⟩ := hq n cs' _ (by omega) (by have := (World.cells?_some h2).2.1; exact this) h3
      exact ⟨b, hb, h2⟩
    obtain ⟨L, hL, hp⟩ := exists_list len key
    unfold maxLen at hm
    refine ⟨_, L, rfl, ⟨flat_len f k hf L, some a, cap, by rw [hL], by omega, by omega, (fun h => by cases h), fun hpos => ?_⟩, fun b hb => ?_⟩
    · have h0 := (hp 0 hpos).2
      rw [Nat.zero_mul] at h0
      have ha0 : a.add 0 = a := by unfold Addr.add; simp
      rw [ha0] at h0
      obtain ⟨b, off, rfl, hbl, _⟩ := cells_cell h0 hk
      refine ⟨b, off, rfl, hbl, fun j u hu => ?_⟩
      obtain ⟨i, r, hi, rfl, hr, h3⟩ := flat_get f k hf hk L j u hu
      have h4 := (hp i hi).2
      rw [add_plain'] at h4
      obtain ⟨b', off', h5, _, h6⟩ := cells_cell h4 hk
      cases h5
      rw [← Nat.add_assoc]
      exact h6 r u h3
    · obtain ⟨i, hi, rfl⟩ := List.mem_iff_getElem.1 hb
      exact (hp i hi).1

theorem cell1 (t : TypeId) (h : t = 9 ∨ t = 3 ∨ t = 31 ∨ t = 26) : Try.prog.cellsOf t = 1 := by
  rcases h with rfl | rfl | rfl | rfl <;> kernel_rfl
theorem open_att {n : Nat} {cs : List Value} {y : DataW H × List MemPlace} (hl : cs.length = 2) (h : DataW.trod enc Try.prog w base spare held n 65 cs = some y) :
    ∃ b : Att, cs = [.string b.name, .string b.value] ∧ b.name.size ≤ 9223372036854775807 ∧ b.value.size ≤ 9223372036854775807 := by
  match cs, hl with
  | [c0, c1], _ =>
    obtain ⟨xs, m, _, _, _, hxs, hf⟩ := DataW.trod_struct Try.underlying65 h
    have h0 := hf 0 _ rfl
    have h1 := hf 1 _ rfl
    change DataW.trod enc Try.prog w base spare held m 9 ((([c0, c1] : List Value).drop 0).take (Try.prog.cellsOf 9)) = xs[0]? at h0
    change DataW.trod enc Try.prog w base spare held m 9 ((([c0, c1] : List Value).drop 1).take (Try.prog.cellsOf 9)) = xs[1]? at h1
    rw [cell1 9 (Or.inl rfl)] at h0 h1
    simp only [List.drop_zero, List.take_succ_cons, List.take_zero, List.drop_succ_cons] at h0 h1
    rw [List.getElem?_eq_getElem (by rw [hxs]; decide)] at h0
    rw [List.getElem?_eq_getElem (by rw [hxs]; decide)] at h1
    obtain ⟨s0, e0, _, z0⟩ := DataW.trod_string Try.underlying9 h0
    obtain ⟨s1, e1, _, z1⟩ := DataW.trod_string Try.underlying9 h1
    unfold maxLen at z0 z1
    simp only [List.cons.injEq, and_true] at e0 e1
    exact ⟨⟨s0, s1⟩, by rw [e0, e1], by show s0.size ≤ _; omega, by show s1.size ≤ _; omega⟩
theorem open_attrs {fuel : Nat} {cs : List Value} {x : DataW H × List MemPlace} (h : DataW.trod enc Try.prog w base spare held fuel 31 cs = some x) :
    ∃ (v : Value) (L : List Att), cs = [v] ∧ Row (fun b => b < w.heap.size) w 2 v L.length (cellsA L) ∧ ∀ b ∈ L, b.name.size ≤ 9223372036854775807 ∧ b.value.size ≤ 9223372036854775807 :=
  open_rows Try.underlying31 (by kernel_rfl) (by decide) h (fun a : Att => [.string a.name, .string a.value]) (fun _ => rfl) (fun b : Att => b.name.size ≤ 9223372036854775807 ∧ b.value.size ≤ 9223372036854775807) (fun n cs' y _ hl h => open_att hl h)

/-- A node by its cells. -/
structure NV where
  x : Nd
  va : Value
  vk : Value
theorem open_node {n : Nat} {cs : List Value} {y : DataW H × List MemPlace} (hl : cs.length = 5) (h : DataW.trod enc Try.prog w base spare held n 44 cs = some y)
    (ih : ∀ m cs' x, m < n → DataW.trod enc Try.prog w base spare held m 26 cs' = some x → ∃ (v : Value) (l : List Nd), cs' = [v] ∧ RepN (fun b => b < w.heap.size) w v l ∧ SzN l) :
    ∃ b : NV, cs = b.x.cells b.va b.vk ∧ RepV (fun b => b < w.heap.size) w b.x b.va b.vk ∧ Sz1 b.x ∧ SzN b.x.kids := by
  match cs, hl with
  | [c0, c1, c2, c3, c4], _ =>
    obtain ⟨xs, m, hm, _, _, hxs, hf⟩ := DataW.trod_struct Try.underlying44 h
    have h0 := hf 0 _ rfl
    have h1 := hf 1 _ rfl
    have h2 := hf 2 _ rfl
    have h3 := hf 3 _ rfl
    have h4 := hf 4 _ rfl
    change DataW.trod enc Try.prog w base spare held m 3 ((([c0, c1, c2, c3, c4] : List Value).drop 0).take (Try.prog.cellsOf 3)) = xs[0]? at h0
    change DataW.trod enc Try.prog w base spare held m 9 ((([c0, c1, c2, c3, c4] : List Value).drop 1).take (Try.prog.cellsOf 9)) = xs[1]? at h1
    change DataW.trod enc Try.prog w base spare held m 31 ((([c0, c1, c2, c3, c4] : List Value).drop 2).take (Try.prog.cellsOf 31)) = xs[2]? at h2
    change DataW.trod enc Try.prog w base spare held m 9 ((([c0, c1, c2, c3, c4] : List Value).drop 3).take (Try.prog.cellsOf 9)) = xs[3]? at h3
    change DataW.trod enc Try.prog w base spare held m 26 ((([c0, c1, c2, c3, c4] : List Value).drop 4).take (Try.prog.cellsOf 26)) = xs[4]? at h4
    rw [cell1 3 (Or.inr (Or.inl rfl))] at h0
    rw [cell1 9 (Or.inl rfl)] at h1 h3
    rw [cell1 31 (Or.inr (Or.inr (Or.inl rfl)))] at h2
    rw [cell1 26 (Or.inr (Or.inr (Or.inr rfl)))] at h4
    simp only [List.drop_zero, List.take_succ_cons, List.take_zero, List.drop_succ_cons] at h0 h1 h2 h3 h4
    rw [List.getElem?_eq_getElem (by rw [hxs]; decide)] at h0
    rw [List.getElem?_eq_getElem (by rw [hxs]; decide)] at h1
    rw [List.getElem?_eq_getElem (by rw [hxs]; decide)] at h2
    rw [List.getElem?_eq_getElem (by rw [hxs]; decide)] at h3
    rw [List.getElem?_eq_getElem (by rw [hxs]; decide)] at h4
    obtain ⟨k, e0, _, _⟩ := DataW.trod_int Try.underlying3 h0
    obtain ⟨s1, e1, _, z1⟩ := DataW.trod_string Try.underlying9 h1
    obtain ⟨va, L, e2, r2, z2⟩ := open_attrs h2
    obtain ⟨s3, e3, _, z3⟩ := DataW.trod_string Try.underlying9 h3
    obtain ⟨vk, l, e4, r4, z4⟩ := ih m _ _ (by omega) h4
    unfold maxLen at z1 z3
    simp only [List.cons.injEq, and_true] at e0 e1 e2 e3 e4
    exact ⟨⟨.mk k s1 L s3 l, va, vk⟩, by rw [e0, e1, e2, e3, e4]; rfl, ⟨r2, r4⟩, ⟨by show s1.size ≤ _; omega, by show s3.size ≤ _; omega, z2⟩, z4⟩
theorem open_nodes (fuel : Nat) : ∀ (cs : List Value) (x : DataW H × List MemPlace), DataW.trod enc Try.prog w base spare held fuel 26 cs = some x →
    ∃ (v : Value) (l : List Nd), cs = [v] ∧ RepN (fun b => b < w.heap.size) w v l ∧ SzN l := by
  induction fuel using Nat.strongRecOn with
  | ind fuel ih =>
    intro cs x h
    obtain ⟨v, L, hv, hr, hq⟩ := open_rows Try.underlying26 (by kernel_rfl) (by decide) h (fun b : NV => b.x.cells b.va b.vk) (fun _ => rfl) (fun b => RepV (fun b => b < w.heap.size) w b.x b.va b.vk ∧ Sz1 b.x ∧ SzN b.x.kids)
      (fun n cs' y hn hl h => open_node hl h (fun m cs'' x hm h => ih m (by omega) cs'' x h))
    refine ⟨v, L.map NV.x, hv, ⟨_, by simpa using hr, ?_⟩, ?_⟩
    · clear hr hv h ih
      induction L with
      | nil => exact RepC.nil _ _
      | cons b r ih =>
        rw [List.flatMap_cons, List.map_cons]
        exact RepC.append (m := r.map NV.x) (ih (fun c hc => hq c (by simp [hc]))) [b.x] _ (RepC.single (hq b (by simp)).1)
    · clear hr hv h ih
      induction L with
      | nil => show SzN []; rw [SzN]; trivial
      | cons b r ih =>
        rw [List.map_cons]
        exact szN_cons.2 ⟨(hq b (by simp)).2.1, (hq b (by simp)).2.2, ih (fun c hc => hq c (by simp [hc]))⟩
end
end Go.Proofs.Yteefodibpjgicaa

/- Package dom: clones. -/
namespace Go.Proofs.Yteefodibpjgicaa
open Go.RowKit

/-- Nodes that a call has made, each row a block of its own, and F the blocks: none stands twice. -/
def OwnC (w : World) : List Value → List Nd → List Nat → Prop
  | xs, [], F => xs = [] ∧ F = []
  | xs, .mk k n ats t ks :: r, F => ∃ va vk zs ys F1 F2, xs = .int .i64 k :: .string n :: va :: .string t :: vk :: ys ∧ w.ownsRow 0 65 2 va ats.length (cellsA ats) ∧ w.ownsRow 0 44 5 vk ks.length zs ∧
      F = (va.ownBlock.toList ++ (vk.ownBlock.toList ++ F1)) ++ F2 ∧ OwnC w zs ks F1 ∧ OwnC w ys r F2
termination_by _ l _ => SizeOf.sizeOf l
theorem OwnC.cons_iff {w : World} {xs : List Value} {x : Nd} {r : List Nd} {F : List Nat} :
    OwnC w xs (x :: r) F ↔ ∃ va vk zs ys F1 F2, xs = x.cells va vk ++ ys ∧ w.ownsRow 0 65 2 va x.attrs.length (cellsA x.attrs) ∧ w.ownsRow 0 44 5 vk x.kids.length zs ∧
      F = (va.ownBlock.toList ++ (vk.ownBlock.toList ++ F1)) ++ F2 ∧ OwnC w zs x.kids F1 ∧ OwnC w ys r F2 := by cases x; rw [OwnC]; rfl
theorem OwnC.nil (w : World) : OwnC w [] [] [] := by rw [OwnC]; exact ⟨rfl, rfl⟩
theorem OwnC.keep {w w' : World} (l : List Nd) : ∀ (xs : List Value) (F : List Nat), (∀ b ∈ F, w'.heap[b]? = w.heap[b]?) → OwnC w xs l F → OwnC w' xs l F := by
  induction l using Nd.ind with
  | h0 => intro xs F _ h; rw [OwnC] at h ⊢; exact h
  | h1 k n ats t ks r ih1 ih2 =>
    intro xs F hk h
    obtain ⟨va, vk, zs, ys, F1, F2, h1, h2, h3, rfl, h5, h6⟩ := OwnC.cons_iff.1 h
    refine OwnC.cons_iff.2 ⟨va, vk, zs, ys, F1, F2, h1, own_keep h2 (fun g hg => hk g (by simp [hg])), own_keep h3 (fun g hg => hk g (by simp [hg])), rfl, ih1 _ _ (fun b hb => hk b (by simp [hb])) h5, ih2 _ _ (fun b hb => hk b (by simp [hb])) h6⟩
theorem OwnC.append {w : World} {m : List Nd} {ys : List Value} {G : List Nat} (h : OwnC w ys m G) (l : List Nd) : ∀ (xs : List Value) (F : List Nat), OwnC w xs l F → OwnC w (xs ++ ys) (l ++ m) (F ++ G) := by
  induction l using Nd.ind with
  | h0 => intro xs F h'; rw [OwnC] at h'; obtain ⟨rfl, rfl⟩ := h'; exact h
  | h1 k n ats t ks r _ ih2 =>
    intro xs F h'
    obtain ⟨va, vk, zs, ys', F1, F2, rfl, h2, h3, rfl, h5, h6⟩ := OwnC.cons_iff.1 h'
    exact OwnC.cons_iff.2 ⟨va, vk, zs, ys' ++ ys, F1, F2 ++ G, by rw [List.append_assoc], h2, h3, by simp, h5, ih2 _ _ h6⟩
theorem OwnC.len {w : World} (l : List Nd) : ∀ (xs : List Value) (F : List Nat), OwnC w xs l F → xs.length = l.length * 5 := by
  induction l using Nd.ind with
  | h0 => intro xs F h; rw [OwnC] at h; rw [h.1]; rfl
  | h1 k n ats t ks r _ ih2 =>
    intro xs F h
    obtain ⟨va, vk, zs, ys, F1, F2, rfl, h2, h3, rfl, h5, h6⟩ := OwnC.cons_iff.1 h
    have := ih2 _ _ h6
    simp
    omega
theorem OwnC.rep {w : World} (l : List Nd) : ∀ (xs : List Value) (F : List Nat), OwnC w xs l F → RepC (· ∈ F) w xs l := by
  induction l using Nd.ind with
  | h0 => intro xs F h; rw [OwnC] at h; rw [RepC]; exact h.1
  | h1 k n ats t ks r ih1 ih2 =>
    intro xs F h
    obtain ⟨va, vk, zs, ys, F1, F2, rfl, h2, h3, rfl, h5, h6⟩ := OwnC.cons_iff.1 h
    refine RepC.cons_iff.2 ⟨va, vk, ys, rfl, Row.own h2 (fun g hg => by simp [hg]), ⟨zs, Row.own h3 (fun g hg => by simp [hg]), RepC.mono (fun b hb => by simp [hb]) _ _ (ih1 _ _ h5)⟩, RepC.mono (fun b hb => by simp [hb]) _ _ (ih2 _ _ h6)⟩
/-- Blocks between two numbers, none twice. -/
def Span (lo hi : Nat) (F : List Nat) : Prop := F.Nodup ∧ ∀ b ∈ F, lo ≤ b ∧ b < hi
theorem Span.nil (lo hi : Nat) : Span lo hi [] := ⟨List.nodup_nil, fun b h => by cases h⟩
theorem Span.append {lo mid hi : Nat} {F G : List Nat} (hF : Span lo mid F) (hG : Span mid hi G) (h1 : lo ≤ mid) (h2 : mid ≤ hi) : Span lo hi (F ++ G) := by
  refine ⟨List.nodup_append.2 ⟨hF.1, hG.1, fun a ha b hb e => by have h3 := (hF.2 a ha).2; have h4 := (hG.2 b hb).1; omega⟩, fun b hb => ?_⟩
  rcases List.mem_append.1 hb with hb | hb
  · have := hF.2 b hb; omega
  · have := hG.2 b hb; omega
theorem Span.mono {lo lo' hi hi' : Nat} {F : List Nat} (hF : Span lo hi F) (h1 : lo' ≤ lo) (h2 : hi ≤ hi') : Span lo' hi' F := ⟨hF.1, fun b hb => by have := hF.2 b hb; omega⟩
theorem Span.own {w : World} {B : Nat} {e : TypeId} {k n : Nat} {v : Value} {xs : List Value} (h : w.ownsRow B e k v n xs) : Span B w.heap.size v.ownBlock.toList := by
  refine ⟨by cases v.ownBlock <;> simp, fun b hb => ?_⟩
  have : v.ownBlock = some b := by cases hv : v.ownBlock <;> simp [hv] at hb ⊢; exact hb.symm
  exact h.lt b this

/-- What a call has made and hands back, with all that stands in it, nothing shared. -/
def Fresh (w' : World) (B : Nat) (v : Value) (l : List Nd) : Prop := ∃ zs F, w'.ownsRow B 44 5 v l.length zs ∧ OwnC w' zs l F ∧ Span B w'.heap.size (v.ownBlock.toList ++ F)
theorem Fresh.rep {w' : World} {B : Nat} {v : Value} {l : List Nd} (h : Fresh w' B v l) : RepN (fun b => B ≤ b ∧ b < w'.heap.size) w' v l := by
  obtain ⟨zs, F, h1, h2, h3⟩ := h
  exact ⟨zs, Row.own h1 (fun g hg => h1.lt g hg), RepC.mono (fun b hb => h3.2 b (by simp [hb])) _ _ (OwnC.rep _ _ _ h2)⟩
def FreshPost (l : List Nd) (w : World) (e : Ending) (w' : World) : Prop := ∃ v', e = .returned v' ∧ Fresh w' w.heap.size v' l ∧ Below w.heap.size w w'
/-- A node by value, its rows its own. -/
def FreshV (x : Nd) (w : World) (e : Ending) (w' : World) : Prop := ∃ va vk zs F, e = .returned (x.val va vk) ∧ w'.ownsRow w.heap.size 65 2 va x.attrs.length (cellsA x.attrs) ∧ w'.ownsRow w.heap.size 44 5 vk x.kids.length zs ∧ OwnC w' zs x.kids F ∧ Span w.heap.size w'.heap.size (va.ownBlock.toList ++ (vk.ownBlock.toList ++ F)) ∧ Below w.heap.size w w'
end Go.Proofs.Yteefodibpjgicaa

/- Package dom: clones, walked. -/
namespace Go.Proofs.Yteefodibpjgicaa
open Go.RowKit

/-- 'append(s, y...)' onto a row that the call owns, elements of k cells; y reads as ys. -/
theorem wpList_appRow {P : Program} {ops : Array Oper} {rest : List Oper} {o : Oper} {a : Act} {Q : Exit → Act → World → Prop} (w1 : World) (hgd : o.guard = none) (s y : Operand) (t e : TypeId)
    (ho : o.op = .call { callee := .builtin .append, args := #[s, y], argTypes := #[t, t] }) (base k : Nat) {z : Value} {bytes : Nat} (ht : P.underlying t = some (.slice e))
    (hinfo : (P.info? e).map (fun i => (i.zero, i.size, i.bytes)) = some (some z, k, bytes)) (hz : z.cells.size = k) (hk : 0 < k)
    (v : Value) (n : Nat) (xs : List Value) (hs : a.eval s = v) (hown : w1.ownsRow base e k v n xs) (S : Nat → Prop) (yv : Value) (m : Nat) (ys : List Value) (hy : a.eval y = yv) (hx : Row S w1 k yv m ys) (h1 : ∀ u ∈ ys, u.oneCell' = true)
    (h63 : n + m ≤ 9223372036854775807) (hbytes : (n + m) * bytes ≤ 140737488355328) (hbase : base ≤ w1.heap.size)
    (h : ∀ v' w2, w2.ownsRow base e k v' (n + m) (xs ++ ys) → w1.grownBy w2 v.ownBlock → wpList P ops Q rest (a.put o.dst v') w2) : wpList P ops Q (o :: rest) a w1 := by
  obtain ⟨i, hi, hz0, hz1, hz2⟩ := info_parts hinfo
  obtain ⟨h0, ad, cap, rfl, h2, h3, h4, h5⟩ := hx
  cases ad with
  | none =>
    have h6 := h4 rfl
    obtain rfl : m = 0 := by omega
    obtain rfl : ys = [] := List.eq_nil_of_length_eq_zero (by simpa using h0)
    subst h6
    refine wpList_append_own_none hgd s y t ho base e i k ht hi v n xs hs hown hy ?_
    exact h v w1 (by simpa using hown) ⟨rfl, rfl, rfl, Nat.le_refl _, fun _ _ _ => rfl⟩
  | some ad =>
    refine wpList_append_own _ hgd s y t ho base e i z k bytes ht hi hz0 hz1 hz2 hz hk v n xs hs hown ad m cap ys hy h0 ?_ h1 (by unfold maxLen; omega) hbytes hbase ?_
    · intro j u hj
      have hm : 0 < m := by
        rcases Nat.eq_zero_or_pos m with h | h
        · subst h
          rw [Nat.zero_mul] at h0
          rw [List.eq_nil_of_length_eq_zero h0] at hj
          simp at hj
        · exact h
      obtain ⟨b, off, h6, _, h7⟩ := h5 hm
      cases h6
      rw [add_plain']
      exact h7 j u hj
    · intro v' w2 h8 h9 _
      exact h v' w2 h8 h9

theorem below_none {W w1 : World} {v : Value} (h : W.grownBy w1 v.ownBlock) (hv : v.ownBlock = none := by rfl) : Below W.heap.size W w1 := by
  rw [hv] at h
  exact ⟨h.os, h.tape, h.output, h.size, fun k hk => h.block k hk (by simp)⟩

set_option maxHeartbeats 2000000 in
set_option maxRecDepth 100000 in
theorem domClone1 (S : Nat → Prop) (x : Nd) (va vk : Value) (w : World) (hS : ∀ b, S b → b < w.heap.size) (hx : RepV S w x va vk) (hw : x.attrs.length ≤ 1000000)
    (ih : ∀ W : World, (∀ b, S b → b < W.heap.size) → RepN S W vk x.kids → Calls Try.prog 24 #[vk] W (FreshPost x.kids W)) :
    Calls Try.prog 33 #[x.val va vk] w (FreshV x w) := by
  obtain ⟨hat, hkd⟩ := hx
  obtain ⟨a1, cap1, rfl⟩ := hat.slice
  obtain ⟨a2, cap2, rfl⟩ := hkd.slice
  replace ih := Lib.hid ih
  go_enter Try.func33, Try.ntmps33
  have b0 := (Box.new w 44 (x.cells (.slice a1 x.attrs.length cap1) (.slice a2 x.kids.length cap2))).alloc (.cells #[.int .i64 0, .string ⟨#[]⟩, .slice none 0 0, .string ⟨#[]⟩, .slice none 0 0] 44)
  have b1 := Box.new (w.alloc (.cells (x.cells (.slice a1 x.attrs.length cap1) (.slice a2 x.kids.length cap2)).toArray 44)) 44 [.int .i64 0, .string ⟨#[]⟩, .slice none 0 0, .string ⟨#[]⟩, .slice none 0 0]
  have hB0 : Below w.heap.size w ((w.alloc (.cells (x.cells (.slice a1 x.attrs.length cap1) (.slice a2 x.kids.length cap2)).toArray 44)).alloc (.cells #[.int .i64 0, .string ⟨#[]⟩, .slice none 0 0, .string ⟨#[]⟩, .slice none 0 0] 44)) := ((Below.refl _ w).alloc (Nat.le_refl _) _).alloc (by simp) _
  have hs0 : ((w.alloc (.cells (x.cells (.slice a1 x.attrs.length cap1) (.slice a2 x.kids.length cap2)).toArray 44)).alloc (.cells #[.int .i64 0, .string ⟨#[]⟩, .slice none 0 0, .string ⟨#[]⟩, .slice none 0 0] 44)).heap.size = w.heap.size + 2 := by simp
  have hat0 := hat.below hS hB0
  simp only [World.size_alloc] at b1
  go_wp2_with (at_builtin; refine wpList_appRow _ rfl _ _ 31 65 rfl (w.heap.size + 2) 2 Try.underlying31 infoA rfl (by omega) _ 0 [] rfl (World.ownsRow_nil _ _ _ _) S _ x.attrs.length (cellsA x.attrs) rfl hat0 (cellsA_one _) (by omega) (by omega) (by simp) ?_; intro v1 w1 hown1 hgrow1; obtain ⟨a3, cap3, rfl⟩ := own_slice hown1; have hb1 := below_none hgrow1; rw [hs0] at hb1; have b2 := b0.below hb1 (by omega); have b3 := b1.below hb1 (by omega); have c2 := b2.cell (i := 2) rfl; have c4 := b2.cell (i := 4) rfl; have f2 := b2.free 2)
  have b4 := b2.set 2 (.slice a3 x.attrs.length cap3)
  have b5 := b3.far (p := ⟨w.heap.size, 2, none⟩) (by simp) (.slice a3 x.attrs.length cap3)
  have hz1 : (w1.setCell ⟨w.heap.size, 2, none⟩ (.slice a3 x.attrs.length cap3)).heap.size = w1.heap.size := by simp [World.setCell]
  have hB1 : Below w.heap.size w (w1.setCell ⟨w.heap.size, 2, none⟩ (.slice a3 x.attrs.length cap3)) := (hB0.trans (hb1.mono (by omega))).setCell (p := ⟨w.heap.size, 2, none⟩) (Nat.le_refl _) _
  have hown2 := own_keep hown1 (w' := w1.setCell ⟨w.heap.size, 2, none⟩ (.slice a3 x.attrs.length cap3)) (fun g hg => Below.heap_setCell _ _ _ _ (by have := (hown1.lt g hg).1; simp; omega))
  have hsz1 := hb1.size
  simp only [List.nil_append, Nat.zero_add] at hown2
  simp only [List.set_cons_succ, List.set_cons_zero] at b4
  obtain ⟨W1, hW1⟩ : ∃ W1, w1.setCell ⟨w.heap.size, 2, none⟩ (.slice a3 x.attrs.length cap3) = W1 := ⟨_, rfl⟩
  rw [hW1] at b4 b5 hz1 hB1 hown2 ⊢
  clear hW1 b0 b1 b2 b3 c2 c4 f2 hown1 hgrow1 hat0
  refine (ih.out W1 (fun b h => by have := hS b h; have := hB1.size; omega) (hkd.below hS hB1)).mono ?_
  rintro e w2 ⟨v2, rfl, ⟨zs, F, hown3, hown4, hspan⟩, hb2⟩
  obtain ⟨a4, cap4, rfl⟩ := own_slice hown3
  have hz2 := hb2.size
  have d0 := b4.below hb2 b4.lt
  have e0 := b5.below hb2 b5.lt
  have q0 := d0.cell (i := 0) rfl
  have q1 := d0.cell (i := 1) rfl
  have q2 := d0.cell (i := 2) rfl
  have q3 := d0.cell (i := 3) rfl
  have q4 := d0.cell (i := 4) rfl
  have p4 := d0.free 4
  have r0 := e0.cell (i := 0) rfl
  have r1 := e0.cell (i := 1) rfl
  have r2 := e0.cell (i := 2) rfl
  have r3 := e0.cell (i := 3) rfl
  have r4 := e0.cell (i := 4) rfl
  have s0 := e0.free 0
  have s1 := e0.free 1
  have s2 := e0.free 2
  have s3 := e0.free 3
  have s4 := e0.free 4
  replace hown3 := Lib.hid hown3
  replace hown4 := Lib.hid hown4
  replace hspan := Lib.hid hspan
  replace hown2 := Lib.hid hown2
  clear ih
  go_wp2
  have hfar : ∀ b, w.heap.size + 2 ≤ b → ((((((w2.setCell ⟨w.heap.size, 4, none⟩ (.slice a4 x.kids.length cap4)).setCell ⟨w.heap.size + 1, 0, none⟩ (.int .i64 x.kind)).setCell ⟨w.heap.size + 1, 1, none⟩ (.string x.name)).setCell ⟨w.heap.size + 1, 2, none⟩ (.slice a3 x.attrs.length cap3)).setCell ⟨w.heap.size + 1, 3, none⟩ (.string x.text)).setCell ⟨w.heap.size + 1, 4, none⟩ (.slice a4 x.kids.length cap4)).heap[b]? = w2.heap[b]? := by
    intro b h
    rw [Below.heap_setCell _ _ _ _ (by simp; omega), Below.heap_setCell _ _ _ _ (by simp; omega), Below.heap_setCell _ _ _ _ (by simp; omega), Below.heap_setCell _ _ _ _ (by simp; omega), Below.heap_setCell _ _ _ _ (by simp; omega), Below.heap_setCell _ _ _ _ (by simp; omega)]
  have hB2 : Below w.heap.size w w2 := hB1.trans (hb2.mono (by have := hB1.size; omega))
  have hB3 := (((((hB2.setCell (p := ⟨w.heap.size, 4, none⟩) (Nat.le_refl _) (.slice a4 x.kids.length cap4)).setCell (p := ⟨w.heap.size + 1, 0, none⟩) (by simp) (.int .i64 x.kind)).setCell (p := ⟨w.heap.size + 1, 1, none⟩) (by simp) (.string x.name)).setCell (p := ⟨w.heap.size + 1, 2, none⟩) (by simp) (.slice a3 x.attrs.length cap3)).setCell (p := ⟨w.heap.size + 1, 3, none⟩) (by simp) (.string x.text)).setCell (p := ⟨w.heap.size + 1, 4, none⟩) (by simp) (.slice a4 x.kids.length cap4)
  have hz5 : ((((((w2.setCell ⟨w.heap.size, 4, none⟩ (.slice a4 x.kids.length cap4)).setCell ⟨w.heap.size + 1, 0, none⟩ (.int .i64 x.kind)).setCell ⟨w.heap.size + 1, 1, none⟩ (.string x.name)).setCell ⟨w.heap.size + 1, 2, none⟩ (.slice a3 x.attrs.length cap3)).setCell ⟨w.heap.size + 1, 3, none⟩ (.string x.text)).setCell ⟨w.heap.size + 1, 4, none⟩ (.slice a4 x.kids.length cap4)).heap.size = w2.heap.size := by simp [World.setCell]
  have e1 := (((((e0.far (p := ⟨w.heap.size, 4, none⟩) (by simp) (.slice a4 x.kids.length cap4)).set 0 (.int .i64 x.kind)).set 1 (.string x.name)).set 2 (.slice a3 x.attrs.length cap3)).set 3 (.string x.text)).set 4 (.slice a4 x.kids.length cap4)
  simp only [List.set_cons_succ, List.set_cons_zero] at e1
  obtain ⟨W5, hW5⟩ : ∃ W5, (((((w2.setCell ⟨w.heap.size, 4, none⟩ (.slice a4 x.kids.length cap4)).setCell ⟨w.heap.size + 1, 0, none⟩ (.int .i64 x.kind)).setCell ⟨w.heap.size + 1, 1, none⟩ (.string x.name)).setCell ⟨w.heap.size + 1, 2, none⟩ (.slice a3 x.attrs.length cap3)).setCell ⟨w.heap.size + 1, 3, none⟩ (.string x.text)).setCell ⟨w.heap.size + 1, 4, none⟩ (.slice a4 x.kids.length cap4) = W5 := ⟨_, rfl⟩
  rw [hW5] at hfar hB3 hz5 e1 ⊢
  clear hW5 q0 q1 q2 q3 q4 p4 r0 r1 r2 r3 r4 s0 s1 s2 s3 s4 d0 e0 b4 b5
  have t0 := e1.cell (i := 0) rfl
  have t1 := e1.cell (i := 1) rfl
  have t2 := e1.cell (i := 2) rfl
  have t3 := e1.cell (i := 3) rfl
  have t4 := e1.cell (i := 4) rfl
  have hW1s := hB1.size
  have hw1 : w.heap.size + 2 ≤ W1.heap.size := by rw [hz1]; have := hsz1; simp at this; omega
  refine bodyPost_ret (v := x.val (.slice a3 x.attrs.length cap3) (.slice a4 x.kids.length cap4)) (by simp [results, Try.results33, go_sem, t0, t1, t2, t3, t4]) rfl ?_
  have o2 := own_keep hown2.out (w' := W5) (fun g hg => by
    have h1 := hown2.out.lt g hg
    rw [hfar g h1.1]; exact hb2.block g h1.2)
  have o3 := own_keep hown3.out (w' := W5) (fun g hg => hfar g (by have h1 := hown3.out.lt g hg; omega))
  refine ⟨_, _, zs, F, rfl, own_base o2 (fun g hg => by have := (o2.lt g hg).1; omega), own_base o3 (fun g hg => by have := (o3.lt g hg).1; omega), OwnC.keep _ _ _ (fun b hb => hfar b (by have := hspan.out.2 b (by simp [hb]); omega)) hown4.out, ?_, hB3⟩
  have sp := Span.own hown2.out
  exact Span.mono (Span.append sp (hspan.out) (by omega) (by omega)) (by omega) (by omega)
end Go.Proofs.Yteefodibpjgicaa

/- Nodes by the cells that hold them, one level deep: rows that share what stands in them. -/
namespace Go.Proofs.Yteefodibpjgicaa
open Go.RowKit

abbrev NV.cells (b : NV) : List Value := b.x.cells b.va b.vk
def cellsV (L : List NV) : List Value := L.flatMap NV.cells
def NV.ok (b : NV) : Prop := (∃ a c, b.va = .slice a b.x.attrs.length c) ∧ ∃ a c, b.vk = .slice a b.x.kids.length c
theorem cellsV_nil : cellsV [] = [] := rfl
theorem cellsV_cons (b : NV) (L : List NV) : cellsV (b :: L) = b.cells ++ cellsV L := rfl
theorem cellsV_append (A B : List NV) : cellsV (A ++ B) = cellsV A ++ cellsV B := by simp [cellsV]
theorem cellsV_one (b : NV) : cellsV [b] = b.cells := by simp [cellsV]
theorem cellsV_snoc (A : List NV) (b : NV) : cellsV (A ++ [b]) = cellsV A ++ b.cells := by rw [cellsV_append, cellsV_one]
theorem cellsV_len (L : List NV) : (cellsV L).length = L.length * 5 := by
  induction L with
  | nil => rfl
  | cons b r ih => rw [cellsV_cons, List.length_append, ih, List.length_cons]; simp; omega
theorem RepV.ok {S : Nat → Prop} {w : World} {b : NV} (h : RepV S w b.x b.va b.vk) : b.ok := ⟨h.at_.slice, h.kids.slice⟩
theorem RepC.nv {S : Nat → Prop} {w : World} : ∀ (l : List Nd) (xs : List Value), RepC S w xs l → ∃ L : List NV, L.map NV.x = l ∧ xs = cellsV L ∧ ∀ b ∈ L, RepV S w b.x b.va b.vk := by
  intro l
  induction l using Nd.ind with
  | h0 => intro xs h; rw [RepC] at h; exact ⟨[], rfl, h, fun b hb => by cases hb⟩
  | h1 k n ats t ks r _ ih2 =>
    intro xs h
    obtain ⟨va, vk, ys, rfl, h2, h3, h5⟩ := RepC.cons_iff.1 h
    obtain ⟨L, rfl, rfl, hL⟩ := ih2 _ h5
    refine ⟨⟨.mk k n ats t ks, va, vk⟩ :: L, rfl, rfl, fun b hb => ?_⟩
    rcases List.mem_cons.1 hb with rfl | hb
    · exact ⟨h2, h3⟩
    · exact hL b hb
theorem RepC.of_nv {S : Nat → Prop} {w : World} {L : List NV} (h : ∀ b ∈ L, RepV S w b.x b.va b.vk) : RepC S w (cellsV L) (L.map NV.x) := by
  induction L with
  | nil => exact RepC.nil _ _
  | cons b r ih =>
    rw [cellsV_cons, List.map_cons]
    exact RepC.append (m := r.map NV.x) (ih (fun c hc => h c (by simp [hc]))) [b.x] _ (RepC.single (h b (by simp)))
theorem cellsV_at (L : List NV) (i : Nat) (h : i < L.length) :
    (cellsV L)[i * 5]? = some (.int .i64 L[i].x.kind) ∧ (cellsV L)[i * 5 + 1]? = some (.string L[i].x.name) ∧ (cellsV L)[i * 5 + 2]? = some L[i].va ∧ (cellsV L)[i * 5 + 3]? = some (.string L[i].x.text) ∧ (cellsV L)[i * 5 + 4]? = some L[i].vk := by
  induction L generalizing i with
  | nil => simp at h
  | cons b r ih =>
    cases i with
    | zero => simp [cellsV_cons, NV.cells]
    | succ i =>
      have := ih i (by simpa using h)
      rw [cellsV_cons, show (i + 1) * 5 = i * 5 + 1 + 1 + 1 + 1 + 1 by omega]
      simpa [NV.cells] using this
theorem Row.atV {S : Nat → Prop} {w : World} {a : Option Addr} {n cap : Nat} {L : List NV} (h : Row S w 5 (.slice a n cap) L.length (cellsV L)) (i : Nat) (hi : i < L.length) :
    ∃ b off, a = some ⟨b, off, none⟩ ∧ S b ∧ w.cell? ⟨b, off + i * 5, none⟩ = some (.int .i64 L[i].x.kind) ∧ w.cell? ⟨b, off + i * 5 + 1, none⟩ = some (.string L[i].x.name) ∧ w.cell? ⟨b, off + i * 5 + 2, none⟩ = some L[i].va ∧ w.cell? ⟨b, off + i * 5 + 3, none⟩ = some (.string L[i].x.text) ∧ w.cell? ⟨b, off + i * 5 + 4, none⟩ = some L[i].vk := by
  obtain ⟨h0, a', cap', h1, h2, h3, h4, h5⟩ := h
  cases h1
  obtain ⟨b, off, rfl, h7, h8⟩ := h5 (by omega)
  obtain ⟨c0, c1, c2, c3, c4⟩ := cellsV_at L i hi
  exact ⟨b, off, rfl, h7, h8 _ _ c0, h8 _ _ c1, h8 _ _ c2, h8 _ _ c3, h8 _ _ c4⟩
/-- What lies in a row of the call's own. -/
theorem own_atV {w : World} {B g : Nat} {n cap : Nat} {L : List NV} (h : w.ownsRow B 44 5 (.slice (some ⟨g, 0, none⟩) n cap) n (cellsV L)) (i : Nat) (hi : i < L.length) :
    w.cell? ⟨g, i * 5, none⟩ = some (.int .i64 L[i].x.kind) ∧ w.cell? ⟨g, i * 5 + 3, none⟩ = some (.string L[i].x.text) ∧ w.frozen? ⟨g, i * 5 + 3, none⟩ = false := by
  obtain ⟨c0, c1, c2, c3, c4⟩ := cellsV_at L i hi
  have hc := fun j u hu => h.cells (g := g) rfl j u hu
  refine ⟨by have := hc _ _ c0; rwa [add_plain', Nat.zero_add] at this, by have := hc _ _ c3; rwa [add_plain', Nat.zero_add] at this, ?_⟩
  rcases h.2 with ⟨h', _⟩ | ⟨g', cap', cur, h', _, hg, _⟩
  · cases h'
  · cases h'
    simp [World.frozen?, hg]

/-- 'append(s, x)' of one element of k cells onto a row that the call owns. -/
theorem wpList_appK {P : Program} {ops : Array Oper} {rest : List Oper} {o : Oper} {a : Act} {Q : Exit → Act → World → Prop} (w1 : World) (cs : List Value) (k : Nat) (hgd : o.guard = none) (s y : Operand) (t e : TypeId)
    (ho : o.op = .call { callee := .builtin .append, args := #[s, y], argTypes := #[t, t] }) (base : Nat) {z : Value} {bytes : Nat} (ht : P.underlying t = some (.slice e))
    (hinfo : (P.info? e).map (fun i => (i.zero, i.size, i.bytes)) = some (some z, k, bytes)) (hz : z.cells.size = k) (hk : 0 < k)
    (v : Value) (n : Nat) (xs : List Value) (hs : a.eval s = v) (hown : w1.ownsRow base e k v n xs) (H : Nat) (hH : w1.heap.size = H) (hx : a.eval y = .slice (some ⟨H, 0, none⟩) 1 1) (hcs : cs.length = k) (h1 : ∀ u ∈ cs, u.oneCell' = true)
    (h63 : n + 1 ≤ 9223372036854775807) (hbytes : (n + 1) * bytes ≤ 140737488355328) (hbase : base ≤ w1.heap.size)
    (h : ∀ g cap w2, w2.ownsRow base e k (.slice (some ⟨g, 0, none⟩) (n + 1) cap) (n + 1) (xs ++ cs) → w1.grownBy w2 v.ownBlock → (v.ownBlock = some g ∨ w1.heap.size ≤ g) → wpList P ops Q rest (a.put o.dst (.slice (some ⟨g, 0, none⟩) (n + 1) cap)) w2) : wpList P ops Q (o :: rest) a (w1.alloc (.cells cs.toArray e)) := by
  subst hH
  obtain ⟨i, hi, hz0, hz1, hz2⟩ := info_parts hinfo
  refine wpList_append_lies _ hgd s y t ho base e i z k bytes ht hi hz0 hz1 hz2 hz hk v n xs hs (hown.alloc _) ⟨w1.heap.size, 0, none⟩ 1 1 cs hx (by omega) ?_ h1 (by omega) (by unfold maxLen; omega) hbytes (by simp; omega) _ rfl ?_
  · intro j u hj
    rw [add_plain', Nat.zero_add, World.cell?_alloc_at _ _ _ _ rfl]
    simpa using hj
  · intro g cap w2 h2 h3 h4 _
    exact h g cap w2 h2 (grownBy_of_alloc h3) (by
      rcases h4 with h4 | h4
      · exact .inl h4
      · right; rw [h4]; simp)
theorem own_below3 {w w1 : World} {base : Nat} {e : TypeId} {k : Nat} {v : Value} {n : Nat} {xs : List Value} (h : w.ownsRow base e k v n xs) (hb : Below w.heap.size w w1) : w1.ownsRow base e k v n xs :=
  own_keep h (fun g hg => hb.block g (h.lt g hg).2)
theorem below_own {B base : Nat} {e : TypeId} {k n : Nat} {v : Value} {xs : List Value} {a w w' : World} (h : Below B a w) (hown : w.ownsRow base e k v n xs) (hg : w.grownBy w' v.ownBlock) (hB : B ≤ w.heap.size) (hb : B ≤ base) : Below B a w' :=
  h.grown hg hB (fun k hk => by have := (hown.lt k hk).1; omega)

/-! ### Parts of a row of nodes -/
theorem RepN.take {S : Nat → Prop} {w : World} {a : Option Addr} {n cap : Nat} {l : List Nd} (h : RepN S w (.slice a n cap) l) (q : Nat) (hq : q ≤ l.length) : RepN S w (.slice a q cap) (l.take q) := by
  obtain ⟨xs, ⟨h1, a', cap', h2, h3, h4, h5, h6⟩, hc⟩ := h
  cases h2
  refine ⟨xs.take (q * 5), ⟨by simp; omega, a, cap, by simp; omega, by simp; omega, h4, h5, fun hp => ?_⟩, RepC.take l xs q hc⟩
  simp at hp
  obtain ⟨b, off, e, hb, hx⟩ := h6 (by omega)
  refine ⟨b, off, e, hb, fun j u hj => hx j u ?_⟩
  rw [List.getElem?_take] at hj
  split at hj
  · exact hj
  · cases hj
theorem RepN.zero (S : Nat → Prop) (w : World) (b : Nat) : RepN S w (.slice (some ⟨b, 0, none⟩) 0 0) [] := ⟨[], ⟨rfl, some ⟨b, 0, none⟩, 0, rfl, Nat.le_refl _, by omega, (fun e => by cases e), fun h => absurd h (by simp)⟩, RepC.nil _ _⟩
theorem RepN.drop {S : Nat → Prop} {w : World} {b : Nat} {off n cap : Nat} {l : List Nd} (h : RepN S w (.slice (some ⟨b, off, none⟩) n cap) l) (q : Nat) (hq : q ≤ l.length) : RepN S w (.slice (some ⟨b, off + q * 5, none⟩) (n - q) (cap - q)) (l.drop q) := by
  obtain ⟨xs, ⟨h1, a', cap', h2, h3, h4, h5, h6⟩, hc⟩ := h
  cases h2
  refine ⟨xs.drop (q * 5), ⟨by simp; omega, some ⟨b, off + q * 5, none⟩, cap - q, by simp, by simp; omega, by omega, (fun e => by cases e), fun hp => ?_⟩, RepC.drop l xs q hc⟩
  simp at hp
  obtain ⟨b', off', e, hb, hx⟩ := h6 (by omega)
  cases e
  refine ⟨b, off + q * 5, rfl, hb, fun j u hj => ?_⟩
  rw [List.getElem?_drop] at hj
  have := hx _ u hj
  rwa [← Nat.add_assoc] at this

/-- 's[q:]', as the walk has it. -/
theorem RepN.rest {S : Nat → Prop} {w : World} {b : Nat} {off n cap : Nat} {l : List Nd} (h : RepN S w (.slice (some ⟨b, off, none⟩) n cap) l) (q : Nat) (hq : q ≤ l.length) :
    RepN S w (.slice (if cap = q then some ⟨b, off, none⟩ else some ⟨b, off + q * 5, none⟩) (n - q) (cap - q)) (l.drop q) := by
  obtain ⟨hn, hc, _⟩ := h.len
  by_cases e : cap = q
  · rw [if_pos e]
    have h1 : l.drop q = [] := List.drop_of_length_le (by omega)
    rw [h1, show n - q = 0 by omega, show cap - q = 0 by omega]
    exact ⟨[], ⟨rfl, some ⟨b, off, none⟩, 0, rfl, Nat.le_refl _, by omega, (fun e => by cases e), fun h => absurd h (by simp)⟩, RepC.nil _ _⟩
  · rw [if_neg e]
    exact h.drop q hq

/-! ### Merged, by cells -/
def NV.withText (b : NV) (t : ByteArray) : NV := ⟨M3.withText b.x t, b.va, b.vk⟩
def bareV (b : NV) : Bool := M3.bareB b.x
def pushV (out : List NV) (b : NV) : List NV :=
  if bareV b then out
  else match out.getLast? with
    | some y => if M3.isText b.x && M3.isText y.x then out.dropLast ++ [y.withText (M3.cat y.x.text b.x.text)] else out ++ [b]
    | none => out ++ [b]
def mergeV (L : List NV) : List NV := L.foldl pushV []
theorem pushV_bare {out : List NV} {b : NV} (h : bareV b = true) : pushV out b = out := by unfold pushV; rw [if_pos h]
theorem pushV_nil {b : NV} (h : bareV b = false) : pushV [] b = [b] := by unfold pushV; rw [if_neg (by simp [h])]; rfl
theorem pushV_snoc {out : List NV} {b y : NV} (h : bareV b = false) : pushV (out ++ [y]) b = if M3.isText b.x && M3.isText y.x then out ++ [y.withText (M3.cat y.x.text b.x.text)] else out ++ [y] ++ [b] := by
  unfold pushV
  rw [if_neg (by simp [h])]
  simp
theorem mergeV_snoc (L : List NV) (b : NV) : mergeV (L ++ [b]) = pushV (mergeV L) b := by simp [mergeV]
theorem pushV_map (out : List NV) (b : NV) : (pushV out b).map NV.x = M3.push (out.map NV.x) b.x := by
  cases h : bareV b
  · rcases List.eq_nil_or_concat out with rfl | ⟨o, y, rfl⟩
    · rw [pushV_nil h]; exact (M3.push_none h).symm
    · rw [List.concat_eq_append, pushV_snoc h, List.map_append, List.map_cons, List.map_nil, M3.push_snoc h]
      split <;> simp [NV.withText]
  · rw [pushV_bare h, M3.push_bare h]
theorem mergeV_map (L : List NV) : (mergeV L).map NV.x = M3.merge (L.map NV.x) := by
  have key : ∀ (L out : List NV), (L.foldl pushV out).map NV.x = (L.map NV.x).foldl M3.push (out.map NV.x) := by
    intro L
    induction L with
    | nil => intro out; rfl
    | cons b r ih => intro out; rw [List.foldl_cons, ih, pushV_map]; rfl
  exact key L []
def txtV (L : List NV) : Nat := (L.map fun b => b.x.text.size).sum
theorem txtV_append (A B : List NV) : txtV (A ++ B) = txtV A + txtV B := by simp [txtV]
theorem txtV_one (b : NV) : txtV [b] = b.x.text.size := by simp [txtV]
theorem cat_size (s t : ByteArray) : (M3.cat s t).size = s.size + t.size := by
  show (M3.cat s t).data.toList.length = s.data.toList.length + t.data.toList.length
  rw [M3.cat_data, List.length_append]
theorem txtV_push (out : List NV) (b : NV) : txtV (pushV out b) ≤ txtV out + b.x.text.size ∧ (pushV out b).length ≤ out.length + 1 := by
  cases h : bareV b
  · rcases List.eq_nil_or_concat out with rfl | ⟨o, y, rfl⟩
    · rw [pushV_nil h, txtV_one]; simp
    · rw [List.concat_eq_append, pushV_snoc h]
      split
      · rw [txtV_append, txtV_append, txtV_one, txtV_one]; simp [NV.withText, M3.withText_text, cat_size]; omega
      · rw [txtV_append, txtV_one]; simp
  · rw [pushV_bare h]; omega
theorem txtV_merge (L : List NV) : txtV (mergeV L) ≤ txtV L ∧ (mergeV L).length ≤ L.length := by
  have key : ∀ (L out : List NV), txtV (L.foldl pushV out) ≤ txtV out + txtV L ∧ (L.foldl pushV out).length ≤ out.length + L.length := by
    intro L
    induction L with
    | nil => intro out; simp [txtV]
    | cons b r ih =>
      intro out
      have h1 := ih (pushV out b)
      have h2 := txtV_push out b
      have h3 : txtV (b :: r) = b.x.text.size + txtV r := by simp [txtV]
      rw [List.foldl_cons, h3, List.length_cons]
      omega
  have := key L []
  simpa [mergeV, txtV] using this
theorem txtV_mem {L : List NV} {b : NV} (h : b ∈ L) : b.x.text.size ≤ txtV L := by
  induction L with
  | nil => cases h
  | cons c r ih =>
    have h3 : txtV (c :: r) = c.x.text.size + txtV r := by simp [txtV]
    rcases List.mem_cons.1 h with rfl | h
    · omega
    · have := ih h; omega
end Go.Proofs.Yteefodibpjgicaa

/- The reference of layer 3: merged. -/
namespace Go.Proofs.Yteefodibpjgicaa
open Go.RowKit

/-- A row of nodes that the call has made; what stands in them is shared. -/
def ShPost (L : List NV) (w : World) (e : Ending) (w' : World) : Prop := ∃ v', e = .returned v' ∧ w'.ownsRow w.heap.size 44 5 v' L.length (cellsV L) ∧ Below w.heap.size w w'

theorem five_one (k : Int) (n t : ByteArray) (a1 a2 : Option Addr) (n1 c1 n2 c2 : Nat) : ∀ u ∈ ([.int .i64 k, .string n, .slice a1 n1 c1, .string t, .slice a2 n2 c2] : List Value), u.oneCell' = true := by simp [Value.oneCell']

theorem meas_nat {n k : Nat} (h : k < n) : n - (intOf (.int .i64 ((k : Int) + 1))).toNat < n - (intOf (.int .i64 (k : Int))).toNat := by
  show n - ((k : Int) + 1).toNat < n - (k : Int).toNat
  omega

theorem cat_eq (s t : ByteArray) : M3.cat s t = s ++ t := by
  have h := cat_mk s.data.toList t
  have e : (⟨s.data.toList.toArray⟩ : ByteArray) = s := by cases s; simp
  rw [e] at h
  rw [h]; rfl

theorem setText_cells (A : List NV) (y : NV) (t : ByteArray) (i : Nat) (h : i = A.length) : (cellsV (A ++ [y])).set (i * 5 + 3) (.string t) = cellsV (A ++ [y.withText t]) := by
  subst h
  rw [cellsV_snoc, cellsV_snoc]
  have h5 : (cellsV A).length = A.length * 5 := cellsV_len A
  rw [List.set_append_right _ _ (by omega), h5, show A.length * 5 + 3 - A.length * 5 = 3 by omega]
  obtain ⟨x, va, vk⟩ := y
  cases x
  rfl

end Go.Proofs.Yteefodibpjgicaa

/- Package dom: nodes without empty texts; the texts that nodes begin with. -/
namespace Go.Proofs.Yteefodibpjgicaa
open Go.RowKit

def filledV (L : List NV) : List NV := L.filter fun b => !(bareV b)
theorem filledV_snoc (L : List NV) (b : NV) : filledV (L ++ [b]) = if bareV b then filledV L else filledV L ++ [b] := by
  unfold filledV
  rw [List.filter_append]
  cases h : bareV b <;> simp [h]
theorem filledV_map (L : List NV) : (filledV L).map NV.x = M3.filled (L.map NV.x) := by
  unfold filledV M3.filled
  rw [List.filter_map]
  rfl
theorem filledV_len (L : List NV) : (filledV L).length ≤ L.length := List.length_filter_le _ _


end Go.Proofs.Yteefodibpjgicaa

/- Package refs' functions: what each call gives, for any text. -/
namespace Go.Proofs.Yteefodibpjgicaa
open Go.RowKit Go.Maps Go.WideShapes

theorem lawS : Keyed Try.prog 9 := string_keyed Try.underlying9
theorem zero32 (w : World) : (zeroValue 21).run Try.prog w = .ok (.int .i32 0) w := by kernel_rfl

/-! ### The map of names -/
/-- The names' map as it reads. -/
def namesL : List (Lit × DataW Unit) := M2.tbl.map fun p => (.string p.1, .lit (.int .i32 (p.2 : Int)))
def namesD : DataW Unit := rowD namesL (.map [])
theorem namesL_keys : ∀ p ∈ namesL, WideAt.IsKeyLit p.1 := by
  intro p hp
  obtain ⟨q, _, rfl⟩ := List.mem_map.1 hp
  trivial
theorem namesL_apart : namesL.Pairwise (fun p q => p.1 ≠ q.1) := by
  rw [namesL, List.pairwise_map]
  exact M2.tbl_apart.imp (fun h e => h (by simpa using e))
theorem names_has (s : List UInt8) : Maps.has namesD (.string s) = (M2.nm s).isSome := by
  unfold namesD
  rw [rowD_has _ _ _ isMap_empty namesL_keys, has_eq, List.any_nil, Bool.or_false]
  rw [Bool.eq_iff_iff, List.any_eq_true]
  constructor
  · rintro ⟨p, hp, h⟩
    obtain ⟨q, hq, rfl⟩ := List.mem_map.1 hp
    have h := WideAt.sameKey_eq h
    simp only [Lit.string.injEq] at h
    rw [← h, M2.nm_of_mem hq]
    rfl
  · intro h
    obtain ⟨n, hn⟩ := Option.isSome_iff_exists.1 h
    exact ⟨_, List.mem_map.2 ⟨_, M2.nm_mem hn, rfl⟩, WideAt.sameKey_self (by trivial)⟩
theorem names_at (s : List UInt8) : namesD.atKey (.string s) (.lit (.int .i32 0)) = .lit (.int .i32 (((M2.nm s).getD 0 : Nat) : Int)) := by
  cases h : M2.nm s with
  | none =>
    refine atKey_of_not_has ?_ _
    rw [names_has, h]
    rfl
  | some n => exact rowD_at namesL _ _ (.string s, .lit (.int .i32 (n : Int))) isMap_empty namesL_keys namesL_apart (List.mem_map.2 ⟨_, M2.nm_mem h, rfl⟩)
abbrev Names (w : World) (b : Nat) : Prop := w.ownsMap Try.prog 9 (plainElem Try.prog 21) b 15 namesD

/-- 'next' on a text, by lists. -/
theorem nextDec {P : Program} (w : World) (k : Nat) (s : ByteArray) (pos : Nat) (hk : w.heap[k]? = some (.stringIter s pos)) (h : pos < s.size) : ∀ ty,
    (Instr.next (.pointer (some ⟨k, 0, none⟩)) true ty).run P w =
      .ok (.tuple #[.bool true, .int .i64 pos, .int .i32 (M1.dec (s.data.toList.drop pos)).1]) (w.iterAt k s (pos + (M1.dec (s.data.toList.drop pos)).2)) := fun ty => by
  rw [Lib.run_next_any_at w k s pos ty hk h, M1.decode_eq]

/-! ### References -/
/-- What a call answers of a reference. -/
def ans (o : Option (Int × Nat)) : Value := .tuple #[.int .i32 ((o.map (·.1)).getD 0), .int .i64 (((o.map (·.2)).getD 0 : Nat) : Int)]
theorem ans_mk (o : Option (Int × Nat)) : ∃ x y, ans o = .tuple #[.int .i32 x, .int .i64 y] := ⟨_, _, rfl⟩
theorem ans_none : ans none = .tuple #[.int .i32 0, .int .i64 0] := rfl
theorem ans_some (r : Int) (n : Nat) : ans (some (r, n)) = .tuple #[.int .i32 r, .int .i64 (n : Int)] := rfl

theorem hp_of {s : ByteArray} (p : List UInt8) (q : Bool) (h : decide (s.data.toList.take p.length = p) = q) : Lib.hasPrefix s.data.toList p = q := by
  rw [← h, Bool.eq_iff_iff, decide_eq_true_iff, Lib.hasPrefix, List.isPrefixOf_iff_prefix, List.prefix_iff_eq_take]
  exact eq_comm


end Go.Proofs.Yteefodibpjgicaa

/- Package refs' Decode and Escape: what each call gives, for any text. -/
namespace Go.Proofs.Yteefodibpjgicaa
open Go.RowKit Go.Maps Go.WideShapes

theorem names_keep {w w' : World} {b B : Nat} (h : Names w b) (hb : Below B w w') (hlt : b < B) : Names w' b := by
  obtain ⟨es, clock, h1, h2⟩ := h
  exact ⟨es, clock, by rw [hb.block b hlt]; exact h1, h2⟩
theorem grown_below {w w' : World} (hb : Below w.heap.size w w') : w.grownBy w' none := ⟨hb.os, hb.tape, hb.output, hb.size, fun k hk _ => hb.block k hk⟩
theorem bldrAt_below {T e : TypeId} {B b : Nat} {p : Value} {bs : List Value} {w w' : World} (h : Lib.BuilderAtF T e B b p bs w) (hb : Below w.heap.size w w') : Lib.BuilderAtF T e B b p bs w' := by
  have hlt := h.lt
  obtain ⟨hB, v, hbk, hown, hne⟩ := h
  refine ⟨hB, v, by rw [hb.block b hlt]; exact hbk, hown.kept (grown_below hb) (by cases v.ownBlock <;> simp), hne⟩
theorem bldr_below {T e : TypeId} {B b : Nat} {bs : List Value} {w w' : World} (h : Lib.IsBuilderF T e B b bs w) (hb : Below w.heap.size w w') : Lib.IsBuilderF T e B b bs w' :=
  h.imp (fun h => bldrAt_below h hb) (fun h => bldrAt_below h hb)
theorem bldr_lt {T e : TypeId} {B b : Nat} {bs : List Value} {w : World} (h : Lib.IsBuilderF T e B b bs w) : b < w.heap.size := by
  rcases h with h | h <;> exact h.lt

/-- How long a text in a slot is. -/
def strSz : Value → Nat
  | .string s => s.size
  | _ => 0


end Go.Proofs.Yteefodibpjgicaa

/- Package dom: the texts that nodes begin with. -/
namespace Go.Proofs.Yteefodibpjgicaa
open Go.RowKit

/-- The texts of the first k nodes, one behind the other. -/
def catK (l : List Nd) (k : Nat) : List UInt8 := (l.take k).flatMap fun x => x.text.data.toList
theorem catK_zero (l : List Nd) : catK l 0 = [] := by simp [catK]
theorem catK_succ (l : List Nd) (k : Nat) (h : k < l.length) : catK l (k + 1) = catK l k ++ l[k].text.data.toList := by
  unfold catK
  rw [List.take_succ_eq_append_getElem h, List.flatMap_append]
  simp
theorem run_join (l : List Nd) : ∀ k, k ≤ l.length → (∀ i (h : i < l.length), i < k → M3.isText l[i] = true) → (∀ h : k < l.length, M3.isText l[k] = false) → M3.runT l = k ∧ M3.joinT l = ⟨(catK l k).toArray⟩ := by
  induction l with
  | nil => intro k hk _ _; obtain rfl : k = 0 := (by simpa using hk); exact ⟨rfl, rfl⟩
  | cons x r ih =>
    intro k hk h1 h2
    cases k with
    | zero =>
      have hx := h2 (by simp)
      simp only [List.getElem_cons_zero] at hx
      rw [M3.runT_no r hx, M3.joinT_no r hx]
      exact ⟨rfl, rfl⟩
    | succ k =>
      have hx := h1 0 (by simp) (by omega)
      simp only [List.getElem_cons_zero] at hx
      obtain ⟨h3, h4⟩ := ih k (by simpa using hk) (fun i hi hik => by have := h1 (i + 1) (by simpa using hi) (by omega); simpa using this) (fun h => by have := h2 (by simpa using h); simpa using this)
      rw [M3.runT_yes r hx, M3.joinT_yes r hx, h3, h4]
      refine ⟨rfl, ?_⟩
      unfold M3.cat catK
      simp
def txtN (l : List Nd) : Nat := (l.map fun x => x.text.size).sum
theorem txtN_cons (x : Nd) (l : List Nd) : txtN (x :: l) = x.text.size + txtN l := by simp [txtN]
theorem txtN_append (a b : List Nd) : txtN (a ++ b) = txtN a + txtN b := by simp [txtN]
theorem txtN_mem {l : List Nd} {x : Nd} (h : x ∈ l) : x.text.size ≤ txtN l := by
  induction l with
  | nil => cases h
  | cons y r ih =>
    rw [txtN_cons]
    rcases List.mem_cons.1 h with rfl | h
    · omega
    · have := ih h; omega
theorem txtV_map (L : List NV) : txtV L = txtN (L.map NV.x) := by simp [txtV, txtN, Function.comp_def]
theorem catK_len (l : List Nd) (k : Nat) : (catK l k).length ≤ txtN l := by
  have h : ∀ m : List Nd, (m.flatMap fun x => x.text.data.toList).length = txtN m := by
    intro m
    induction m with
    | nil => rfl
    | cons x r ih => rw [List.flatMap_cons, List.length_append, ih, txtN_cons]; rfl
  unfold catK
  rw [h]
  have : txtN l = txtN (l.take k) + txtN (l.drop k) := by rw [← txtN_append, List.take_append_drop]
  omega
def JoinPost (l : List Nd) (w : World) (e : Ending) (w' : World) : Prop := e = .returned (.tuple #[.string (M3.joinT l), .int .i64 (M3.runT l : Int)]) ∧ Below w.heap.size w w'


end Go.Proofs.Yteefodibpjgicaa

/- Package dom: Clone. -/
namespace Go.Proofs.Yteefodibpjgicaa
open Go.RowKit

/-- Nodes few enough. -/
abbrev Few6 (l : List Nd) : Prop := M3.weight l ≤ 1000000

/-- Five cells laid into a row at element i, and the state of the row while it is filled. -/
theorem set5 (done Z : List Value) (i : Nat) (c0 c1 c2 c3 c4 z0 z1 z2 z3 z4 : Value) (hd : done.length = i * 5) :
    (((((done ++ z0 :: z1 :: z2 :: z3 :: z4 :: Z).set (i * 5) c0).set (i * 5 + 1) c1).set (i * 5 + 2) c2).set (i * 5 + 3) c3).set (i * 5 + 4) c4 = done ++ [c0, c1, c2, c3, c4] ++ Z := by
  rw [← hd]
  simp
theorem own_cell {w : World} {B : Nat} {e : TypeId} {k n g cap : Nat} {xs : List Value} (h : w.ownsRow B e k (.slice (some ⟨g, 0, none⟩) n cap) n xs) (j : Nat) (u : Value) (hu : xs[j]? = some u) : w.cell? ⟨g, j, none⟩ = some u ∧ w.frozen? ⟨g, j, none⟩ = false := by
  refine ⟨by have := h.cells (g := g) rfl j u hu; rwa [add_plain', Nat.zero_add] at this, ?_⟩
  rcases h.2 with ⟨h', _⟩ | ⟨g', cap', cur, h', _, hg, _⟩
  · cases h'
  · cases h'
    simp [World.frozen?, hg]
def put5 (w : World) (g i : Nat) (c0 c1 c2 c3 c4 : Value) : World := ((((w.setCell ⟨g, i * 5, none⟩ c0).setCell ⟨g, i * 5 + 1, none⟩ c1).setCell ⟨g, i * 5 + 2, none⟩ c2).setCell ⟨g, i * 5 + 3, none⟩ c3).setCell ⟨g, i * 5 + 4, none⟩ c4
theorem put5_own {w : World} {B : Nat} {e : TypeId} {n g cap i : Nat} {done Z : List Value} {z0 z1 z2 z3 z4 : Value} (h : w.ownsRow B e 5 (.slice (some ⟨g, 0, none⟩) n cap) n (done ++ z0 :: z1 :: z2 :: z3 :: z4 :: Z)) (hd : done.length = i * 5) (c0 c1 c2 c3 c4 : Value) :
    (put5 w g i c0 c1 c2 c3 c4).ownsRow B e 5 (.slice (some ⟨g, 0, none⟩) n cap) n (done ++ [c0, c1, c2, c3, c4] ++ Z) := by
  have := ((((h.stored (i * 5) c0).1.stored (i * 5 + 1) c1).1.stored (i * 5 + 2) c2).1.stored (i * 5 + 3) c3).1.stored (i * 5 + 4) c4
  rw [set5 _ _ _ _ _ _ _ _ _ _ _ _ _ hd] at this
  exact this.1
theorem put5_far (w : World) (g i : Nat) (c0 c1 c2 c3 c4 : Value) (b : Nat) (h : b ≠ g) : (put5 w g i c0 c1 c2 c3 c4).heap[b]? = w.heap[b]? := by
  unfold put5
  rw [Below.heap_setCell _ _ _ _ (by simpa using h), Below.heap_setCell _ _ _ _ (by simpa using h), Below.heap_setCell _ _ _ _ (by simpa using h), Below.heap_setCell _ _ _ _ (by simpa using h), Below.heap_setCell _ _ _ _ (by simpa using h)]
theorem put5_size (w : World) (g i : Nat) (c0 c1 c2 c3 c4 : Value) : (put5 w g i c0 c1 c2 c3 c4).heap.size = w.heap.size := by simp [put5, World.setCell]
theorem put5_below {B : Nat} {a w : World} (h : Below B a w) (g i : Nat) (c0 c1 c2 c3 c4 : Value) (hg : B ≤ g) : Below B a (put5 w g i c0 c1 c2 c3 c4) :=
  ((((h.setCell (p := ⟨g, i * 5, none⟩) hg c0).setCell (p := ⟨g, i * 5 + 1, none⟩) hg c1).setCell (p := ⟨g, i * 5 + 2, none⟩) hg c2).setCell (p := ⟨g, i * 5 + 3, none⟩) hg c3).setCell (p := ⟨g, i * 5 + 4, none⟩) hg c4
theorem weight_le {x : Nd} {l : List Nd} (h : x ∈ l) : 1 + x.attrs.length + M3.weight x.kids ≤ M3.weight l := by
  induction l with
  | nil => cases h
  | cons y r ih =>
    rw [M3.weight_cons]
    rcases List.mem_cons.1 h with rfl | h
    · omega
    · have := ih h; omega

set_option maxHeartbeats 4000000 in
set_option maxRecDepth 100000 in
theorem domClone (wt : Nat) : ∀ (S : Nat → Prop) (v : Value) (l : List Nd) (w : World), M3.weight l < wt → Few6 l → (∀ b, S b → b < w.heap.size) → RepN S w v l →
    Calls Try.prog 24 #[v] w (FreshPost l w) := by
  induction wt with
  | zero => intro S v l w h; omega
  | succ wt ih =>
    intro S v l w hwt hf hS hr
    have hll := M3.length_le_weight l
    obtain ⟨a, cap, rfl⟩ := hr.slice
    obtain ⟨_, hlc, hcm⟩ := hr.len
    by_cases h0 : l.length = 0
    · obtain rfl : l = [] := List.eq_nil_of_length_eq_zero h0
      go_enter Try.func24, Try.ntmps24
      go_wp2
      go_ret
      exact ⟨_, rfl, ⟨[], [], World.ownsRow_nil _ _ _ _, OwnC.nil _, Span.nil _ _⟩, Below.refl _ _⟩
    have hzb : ((l.length : Int) == 0) = false := by simpa using h0
    obtain ⟨i0, hi0, hz0, hz1, hz2⟩ := info_parts infoN
    obtain ⟨W0, hmk, hownz, hg0⟩ := run_make_full (P := Try.prog) (w := w) w.heap.size 26 44 i0 _ 5 Try.underlying26 hi0 hz0 hz1 .i64 .i64 l.length (by rw [hz2]; omega) (by unfold maxLen; omega) (Nat.le_refl _)
    have hB0 : Below w.heap.size w W0 := ⟨hg0.os, hg0.tape, hg0.output, hg0.size, fun k hk => hg0.block k hk (by simp)⟩
    have hlz : (madeCells (Value.agg #[.int .i64 0, .string ⟨#[]⟩, .slice none 0 0, .string ⟨#[]⟩, .slice none 0 0]).cells (l.length * 5)).toList.length = l.length * 5 := hownz.1
    generalize (madeCells (Value.agg #[.int .i64 0, .string ⟨#[]⟩, .slice none 0 0, .string ⟨#[]⟩, .slice none 0 0]).cells (l.length * 5)).toList = Z0 at *
    clear hg0 h0
    replace hlz := Lib.hid hlz
    go_enter Try.func24, Try.ntmps24
    go_wp2
    go_loopw [14] (fun u14 wr => ∃ (i : Nat) (done Z : List Value) (F : List Nat), i ≤ l.length ∧ u14 = .int .i64 (i : Int) ∧ done.length = i * 5 ∧ Z.length = (l.length - i) * 5 ∧ wr.ownsRow w.heap.size 44 5 (.slice (some ⟨w.heap.size, 0, none⟩) l.length l.length) l.length (done ++ Z) ∧ OwnC wr done (l.take i) F ∧ Span (w.heap.size + 1) wr.heap.size F ∧ Below w.heap.size w wr) (fun u14 _ => l.length - (intOf u14).toNat)
    case atStart => exact ⟨0, [], Z0, [], by omega, rfl, rfl, hlz.out, hownz, by simpa using OwnC.nil _, Span.nil _ _, hB0⟩
    case round =>
      obtain ⟨i, done, Z, F, hi, rfl, hd, hZ, hown, hoc, hsp, hb⟩ := hrel
      have hz := hb.size
      have hgl := (hown.lt w.heap.size rfl).2
      by_cases hlt : i < l.length
      · obtain ⟨b, off, va, vk, rfl, hSb, c0, c1, c2, c3, c4, hrv⟩ := (hr.below hS hb).at_ i hlt
        have hbl := hS b hSb
        have htk : l.take (i + 1) = l.take i ++ [l[i]] := List.take_succ_eq_append_getElem hlt
        have hwx := weight_le (List.getElem_mem hlt)
        generalize l[i] = x at *
        obtain ⟨hat, hkd⟩ := hrv
        obtain ⟨a1, cap1, rfl⟩ := hat.slice
        obtain ⟨a2, cap2, rfl⟩ := hkd.slice
        obtain ⟨z0, z1, z2, z3, z4, Z', rfl⟩ : ∃ z0 z1 z2 z3 z4 Z', Z = z0 :: z1 :: z2 :: z3 :: z4 :: Z' := by
          match Z, hZ with
          | z0 :: z1 :: z2 :: z3 :: z4 :: Z', _ => exact ⟨_, _, _, _, _, _, rfl⟩
          | [], h | [_], h | [_, _], h | [_, _, _], h | [_, _, _, _], h => simp at h; omega
        have hbx := (Below.refl wr.heap.size wr).alloc (Nat.le_refl _) (.cells (x.cells (.slice a1 x.attrs.length cap1) (.slice a2 x.kids.length cap2)).toArray 44)
        have hcl := fun W (hbb : Below w.heap.size w W) => domClone1 S x (.slice a1 x.attrs.length cap1) (.slice a2 x.kids.length cap2) W (fun b h => by have := hS b h; have := hbb.size; omega)
        have hrx : ∀ W, Below wr.heap.size wr W → RepV S W x (.slice a1 x.attrs.length cap1) (.slice a2 x.kids.length cap2) := fun W hW => RepV.below (w := wr) (B := wr.heap.size) ⟨hat, hkd⟩ (fun b h => by have := hS b h; omega) hW
        have hihx := fun W h1 h2 => ih S (.slice a2 x.kids.length cap2) x.kids W (by omega) (by show M3.weight x.kids ≤ 1000000; unfold Few6 at hf; omega) h1 h2
        have hcl2 := hcl (wr.alloc (.cells (x.cells (.slice a1 x.attrs.length cap1) (.slice a2 x.kids.length cap2)).toArray 44)) (hb.alloc hz _) (hrx _ hbx) (by unfold Few6 at hf; omega) hihx
        have hkd0 : Hid True := trivial
        clear hcl hrx hihx
        replace hcl2 := Lib.hid hcl2
        replace htk := Lib.hid htk
        replace hd := Lib.hid hd
        replace hZ := Lib.hid hZ
        replace hoc := Lib.hid hoc
        replace hown := Lib.hid hown
        go_wp2_with (fail)
        refine hcl2.out.mono ?_
        rintro e w2 ⟨va2, vk2, zs2, F2, rfl, oa, ok, hoc2, hsp2, hb2⟩
        obtain ⟨a3, cap3, rfl⟩ := own_slice oa
        obtain ⟨a4, cap4, rfl⟩ := own_slice ok
        have hbw2 : Below wr.heap.size wr w2 := hbx.trans (hb2.mono (by simp))
        have own2 := own_keep hown.out (w' := w2) (fun g hg => by
          have h1 : w.heap.size = g := by simpa [Value.ownBlock] using hg
          rw [← h1]; exact hbw2.block _ hgl)
        have hzz : ∀ j u, ([z0, z1, z2, z3, z4] : List Value)[j]? = some u → (done ++ z0 :: z1 :: z2 :: z3 :: z4 :: Z')[i * 5 + j]? = some u := by
          intro j u hu
          rw [List.getElem?_append_right (by have := hd.out; omega), show i * 5 + j - done.length = j by have := hd.out; omega]
          have := (List.getElem?_eq_some_iff.1 hu).1
          simp at this
          match j, this with
          | 0, _ | 1, _ | 2, _ | 3, _ | 4, _ => exact hu
        obtain ⟨y0, g0⟩ := own_cell own2 _ _ (hzz 0 _ rfl)
        obtain ⟨y1, g1⟩ := own_cell own2 _ _ (hzz 1 _ rfl)
        obtain ⟨y2, g2⟩ := own_cell own2 _ _ (hzz 2 _ rfl)
        obtain ⟨y3, g3⟩ := own_cell own2 _ _ (hzz 3 _ rfl)
        obtain ⟨y4, g4⟩ := own_cell own2 _ _ (hzz 4 _ rfl)
        simp only [Nat.add_zero] at y0 g0
        have hbw : Below w.heap.size w w2 := hb.trans (hbw2.mono hz)
        have hzw := hbw2.size
        replace hzz := Lib.hid hzz
        replace own2 := Lib.hid own2
        replace oa := Lib.hid oa
        replace ok := Lib.hid ok
        replace hoc2 := Lib.hid hoc2
        clear hcl2 c0 c1 c2 c3 c4
        go_wp2_with (fail)
        go_roundw
        case rel =>
          have hp := put5_own own2.out hd.out (.int .i64 x.kind) (.string x.name) (.slice a3 x.attrs.length cap3) (.string x.text) (.slice a4 x.kids.length cap4)
          have hfar := put5_far w2 w.heap.size i (.int .i64 x.kind) (.string x.name) (.slice a3 x.attrs.length cap3) (.string x.text) (.slice a4 x.kids.length cap4)
          have hsz5 := put5_size w2 w.heap.size i (.int .i64 x.kind) (.string x.name) (.slice a3 x.attrs.length cap3) (.string x.text) (.slice a4 x.kids.length cap4)
          have hbl5 := put5_below hbw w.heap.size i (.int .i64 x.kind) (.string x.name) (.slice a3 x.attrs.length cap3) (.string x.text) (.slice a4 x.kids.length cap4) (Nat.le_refl _)
          have hsW : wr.heap.size + 1 = (wr.alloc (.cells (x.cells (.slice a1 x.attrs.length cap1) (.slice a2 x.kids.length cap2)).toArray 44)).heap.size := by simp
          rw [← hsW] at hsp2
          refine ⟨i + 1, done ++ [.int .i64 x.kind, .string x.name, .slice a3 x.attrs.length cap3, .string x.text, .slice a4 x.kids.length cap4], Z', F ++ ((Value.slice a3 x.attrs.length cap3).ownBlock.toList ++ ((Value.slice a4 x.kids.length cap4).ownBlock.toList ++ F2)), by omega, by go_num, by simp; have := hd.out; omega, by have := hZ.out; simp at this; omega, ?_, ?_, ?_, hbl5⟩
          · exact hp
          · rw [htk.out]
            have k1 : OwnC (put5 w2 w.heap.size i (.int .i64 x.kind) (.string x.name) (.slice a3 x.attrs.length cap3) (.string x.text) (.slice a4 x.kids.length cap4)) done (l.take i) F :=
              OwnC.keep _ _ _ (fun b hb' => (hfar b (by have := hsp.2 b hb'; omega)).trans (hbw2.block b (hsp.2 b hb').2)) hoc.out
            refine OwnC.append ?_ _ _ _ k1
            have k2 := own_keep oa.out (w' := put5 w2 w.heap.size i (.int .i64 x.kind) (.string x.name) (.slice a3 x.attrs.length cap3) (.string x.text) (.slice a4 x.kids.length cap4)) (fun g hg => hfar g (by have := (oa.out.lt g hg).1; omega))
            have k3 := own_keep ok.out (w' := put5 w2 w.heap.size i (.int .i64 x.kind) (.string x.name) (.slice a3 x.attrs.length cap3) (.string x.text) (.slice a4 x.kids.length cap4)) (fun g hg => hfar g (by have := (ok.out.lt g hg).1; omega))
            have k4 : OwnC (put5 w2 w.heap.size i (.int .i64 x.kind) (.string x.name) (.slice a3 x.attrs.length cap3) (.string x.text) (.slice a4 x.kids.length cap4)) zs2 x.kids F2 := OwnC.keep _ _ _ (fun b hb' => hfar b (by have := hsp2.2 b (by simp [hb']); omega)) hoc2.out
            exact OwnC.cons_iff.2 ⟨_, _, zs2, [], F2, [], rfl, own_base k2 (fun g _ => Nat.zero_le _), own_base k3 (fun g _ => Nat.zero_le _), by simp, k4, OwnC.nil _⟩
          · show Span _ (put5 w2 w.heap.size i (.int .i64 x.kind) (.string x.name) (.slice a3 x.attrs.length cap3) (.string x.text) (.slice a4 x.kids.length cap4)).heap.size _
            rw [hsz5]
            exact Span.append (mid := wr.heap.size) hsp (hsp2.mono (by omega) (Nat.le_refl _)) (by omega) (by omega)
        case measure => simp [intOf]; omega
      · obtain rfl : i = l.length := by omega
        have hZ0 : Z = [] := List.eq_nil_of_length_eq_zero (by rw [hZ]; simp)
        subst hZ0
        rw [List.append_nil] at hown
        rw [List.take_length] at hoc
        replace hown := Lib.hid hown
        replace hoc := Lib.hid hoc
        clear hd hZ
        go_wp2
        go_ret
        refine ⟨_, rfl, ⟨done, F, hown.out, hoc.out, ?_⟩, hb⟩
        exact Span.append (mid := w.heap.size + 1) ⟨by simp [Value.ownBlock], fun b hb' => by simp [Value.ownBlock] at hb'; omega⟩ hsp (by omega) (by omega)
end Go.Proofs.Yteefodibpjgicaa

/- Package dom: Merge. -/
namespace Go.Proofs.Yteefodibpjgicaa
open Go.RowKit

/-- A clone of one node. -/
theorem domCloneN (S : Nat → Prop) (x : Nd) (va vk : Value) (w : World) (hS : ∀ b, S b → b < w.heap.size) (hx : RepV S w x va vk) (hw : 1 + x.attrs.length + M3.weight x.kids ≤ 1000000) :
    Calls Try.prog 33 #[x.val va vk] w (FreshV x w) :=
  domClone1 S x va vk w hS hx (by omega) (fun W2 h3 h4 => domClone (M3.weight x.kids + 1) S _ x.kids W2 (by omega) (by show M3.weight x.kids ≤ 1000000; omega) h3 h4)

theorem Fresh.nil (w : World) (B : Nat) : Fresh w B (.slice none 0 0) [] := ⟨[], [], World.ownsRow_nil _ _ _ _, OwnC.nil _, Span.nil _ _⟩
theorem Fresh.base {w : World} {B B' : Nat} {v : Value} {l : List Nd} (h : Fresh w B v l) (hb : B' ≤ B) : Fresh w B' v l := by
  obtain ⟨zs, F, h1, h2, h3⟩ := h
  exact ⟨zs, F, own_base h1 (fun g hg => by have := (h1.lt g hg).1; omega), h2, h3.mono hb (Nat.le_refl _)⟩
theorem Fresh.keep {w w' : World} {B : Nat} {v : Value} {l : List Nd} (h : Fresh w B v l) (hk : ∀ b, B ≤ b → b < w.heap.size → w'.heap[b]? = w.heap[b]?) (hz : w.heap.size ≤ w'.heap.size) : Fresh w' B v l := by
  obtain ⟨zs, F, h1, h2, h3⟩ := h
  exact ⟨zs, F, own_keep h1 (fun g hg => hk g (h1.lt g hg).1 (h1.lt g hg).2), OwnC.keep _ _ _ (fun b hb => hk b (h3.2 b (by simp [hb])).1 (h3.2 b (by simp [hb])).2) h2, h3.mono (Nat.le_refl _) hz⟩
/-- 'append(out, x)' behind nodes that the call has made, nothing shared. -/
theorem Fresh.snoc {W w5 : World} {B mid g n cap : Nat} {u : Value} {A : List Nd} {zs : List Value} {F : List Nat} {x : Nd} {va vk : Value} {zs2 : List Value} {F2 : List Nat} (hn : n = A.length + 1)
    (hown5 : w5.ownsRow B 44 5 (.slice (some ⟨g, 0, none⟩) n cap) n (zs ++ x.cells va vk)) (hgrow : W.grownBy w5 u.ownBlock) (hat : u.ownBlock = some g ∨ W.heap.size ≤ g)
    (hA : OwnC W zs A F) (hsp : Span B mid (u.ownBlock.toList ++ F))
    (ha : W.ownsRow 0 65 2 va x.attrs.length (cellsA x.attrs)) (hk : W.ownsRow 0 44 5 vk x.kids.length zs2) (hc : OwnC W zs2 x.kids F2) (hsp2 : Span mid W.heap.size (va.ownBlock.toList ++ (vk.ownBlock.toList ++ F2))) (hBm : B ≤ mid) (hm : mid ≤ W.heap.size) :
    Fresh w5 B (.slice (some ⟨g, 0, none⟩) n cap) (A ++ [x]) := by
  subst hn
  have hall : Span B W.heap.size (u.ownBlock.toList ++ F ++ (va.ownBlock.toList ++ (vk.ownBlock.toList ++ F2))) := Span.append hsp hsp2 hBm hm
  have hg5 := (hown5.lt g rfl)
  have hkeep : ∀ b ∈ F ++ (va.ownBlock.toList ++ (vk.ownBlock.toList ++ F2)), w5.heap[b]? = W.heap[b]? := by
    intro b hb
    refine hgrow.block b (hall.2 b (by rcases List.mem_append.1 hb with h | h <;> simp [h])).2 (fun e => ?_)
    have hnd := hall.1
    rw [List.append_assoc] at hnd
    have := (List.nodup_append.1 hnd).2.2 b (by rw [← e]; simp) b hb
    exact this rfl
  have hgn : g ∉ F ++ (va.ownBlock.toList ++ (vk.ownBlock.toList ++ F2)) := by
    intro hb
    rcases hat with h | h
    · have hnd := hall.1
      rw [List.append_assoc] at hnd
      exact (List.nodup_append.1 hnd).2.2 g (by rw [h]; simp) g hb rfl
    · have := (hall.2 g (by rcases List.mem_append.1 hb with h | h <;> simp [h])).2
      omega
  refine ⟨zs ++ x.cells va vk, F ++ (va.ownBlock.toList ++ (vk.ownBlock.toList ++ F2)), by simpa using hown5, ?_, ?_⟩
  · refine OwnC.append ?_ _ _ _ (OwnC.keep _ _ _ (fun b hb => hkeep b (by simp [hb])) hA)
    exact OwnC.cons_iff.2 ⟨va, vk, zs2, [], F2, [], by simp, own_keep ha (fun b hb => hkeep b (by simp [hb])), own_keep hk (fun b hb => hkeep b (by simp [hb])), by simp, OwnC.keep _ _ _ (fun b hb => hkeep b (by simp [hb])) hc, OwnC.nil _⟩
  · have hs := hgrow.size
    refine ⟨?_, fun b hb => ?_⟩
    · show (g :: (F ++ (va.ownBlock.toList ++ (vk.ownBlock.toList ++ F2)))).Nodup
      refine List.nodup_cons.2 ⟨hgn, ?_⟩
      have hnd := hall.1
      rw [List.append_assoc] at hnd
      exact (List.nodup_append.1 hnd).2.1
    · rcases List.mem_append.1 hb with h | h
      · have : b = g := by simpa [Value.ownBlock] using h
        subst this
        exact hg5
      · have := hall.2 b (by rcases List.mem_append.1 h with h | h <;> simp [h])
        omega

theorem front_le (l : List Nd) : ∀ n, l.length ≤ n → (M3.front l).length ≤ l.length := by
  intro n
  induction n generalizing l with
  | zero => intro h; obtain rfl : l = [] := List.eq_nil_of_length_eq_zero (by omega); rw [M3.front_nil]; exact Nat.le_refl _
  | succ n ih =>
    intro h
    cases l with
    | nil => rw [M3.front_nil]; exact Nat.le_refl _
    | cons x r =>
      cases ht : M3.isText x
      · rw [M3.front_no r ht, List.length_cons, List.length_cons]; have := ih r (by simpa using h); omega
      · rw [M3.front_yes r ht, M3.runT_yes r ht, List.length_cons, List.length_cons, List.drop_succ_cons]
        have h2 : (r.drop (M3.runT r)).length ≤ r.length := by simp
        have := ih (r.drop (M3.runT r)) (by simp at h ⊢; omega)
        omega
end Go.Proofs.Yteefodibpjgicaa

/- The reference of layer 3: merged, of nodes that the call has made, nothing shared. -/
namespace Go.Proofs.Yteefodibpjgicaa
open Go.RowKit

theorem OwnC.nv {w : World} (l : List Nd) : ∀ (xs : List Value) (F : List Nat), OwnC w xs l F → ∃ L : List NV, L.map NV.x = l ∧ xs = cellsV L ∧ ∀ b ∈ L, b.ok := by
  induction l using Nd.ind with
  | h0 => intro xs F h; rw [OwnC] at h; exact ⟨[], rfl, h.1, fun b hb => by cases hb⟩
  | h1 k n ats t ks r _ ih2 =>
    intro xs F h
    obtain ⟨va, vk, zs, ys, F1, F2, rfl, h2, h3, rfl, h5, h6⟩ := OwnC.cons_iff.1 h
    obtain ⟨L, rfl, rfl, hL⟩ := ih2 _ _ h6
    refine ⟨⟨.mk k n ats t ks, va, vk⟩ :: L, rfl, rfl, fun b hb => ?_⟩
    rcases List.mem_cons.1 hb with rfl | hb
    · exact ⟨own_slice h2, own_slice h3⟩
    · exact hL b hb

theorem OwnC.one {w : World} {b : NV} {F : List Nat} (h : OwnC w b.cells [b.x] F) : ∃ zs F1, w.ownsRow 0 65 2 b.va b.x.attrs.length (cellsA b.x.attrs) ∧ w.ownsRow 0 44 5 b.vk b.x.kids.length zs ∧ F = b.va.ownBlock.toList ++ (b.vk.ownBlock.toList ++ F1) ∧ OwnC w zs b.x.kids F1 := by
  obtain ⟨va, vk, zs, ys, F1, F2, h1, h2, h3, rfl, h5, h6⟩ := OwnC.cons_iff.1 h
  rw [OwnC] at h6
  obtain ⟨rfl, rfl⟩ := h6
  obtain ⟨x, va', vk'⟩ := b
  cases h1
  exact ⟨zs, F1, h2, h3, by simp, h5⟩

theorem OwnC.mk_one {w : World} {b : NV} {zs : List Value} {F1 : List Nat} (h2 : w.ownsRow 0 65 2 b.va b.x.attrs.length (cellsA b.x.attrs)) (h3 : w.ownsRow 0 44 5 b.vk b.x.kids.length zs) (h5 : OwnC w zs b.x.kids F1) :
    OwnC w b.cells [b.x] (b.va.ownBlock.toList ++ (b.vk.ownBlock.toList ++ F1)) :=
  OwnC.cons_iff.2 ⟨b.va, b.vk, zs, [], F1, [], by simp, h2, h3, by simp, h5, OwnC.nil _⟩

theorem OwnC.split {w : World} {m : List Nd} {ys : List Value} (l : List Nd) : ∀ (xs : List Value) (F : List Nat), xs.length = l.length * 5 → OwnC w (xs ++ ys) (l ++ m) F → ∃ F1 F2, F = F1 ++ F2 ∧ OwnC w xs l F1 ∧ OwnC w ys m F2 := by
  induction l using Nd.ind with
  | h0 =>
    intro xs F hl h
    obtain rfl : xs = [] := List.eq_nil_of_length_eq_zero (by simpa using hl)
    exact ⟨[], F, rfl, OwnC.nil _, h⟩
  | h1 k n ats t ks r _ ih2 =>
    intro xs F hl h
    obtain ⟨va, vk, zs, ys', F1, F2, h1, h2, h3, rfl, h5, h6⟩ := OwnC.cons_iff.1 h
    obtain ⟨xs', rfl⟩ : ∃ xs', xs = (Nd.mk k n ats t ks).cells va vk ++ xs' := by
      match xs, hl, h1 with
      | c0 :: c1 :: c2 :: c3 :: c4 :: xs', _, h1 =>
        simp only [List.cons_append, List.cons.injEq, List.nil_append] at h1
        obtain ⟨rfl, rfl, rfl, rfl, rfl, _⟩ := h1
        exact ⟨xs', rfl⟩
      | [], hl, _ | [_], hl, _ | [_, _], hl, _ | [_, _, _], hl, _ | [_, _, _, _], hl, _ => exact absurd hl (by simp <;> omega)
    rw [List.append_assoc] at h1
    have h1' : xs' ++ ys = ys' := List.append_cancel_left h1
    subst h1'
    obtain ⟨G1, G2, rfl, g1, g2⟩ := ih2 xs' F2 (by simp at hl; omega) h6
    exact ⟨_, G2, (by rw [← List.append_assoc]), OwnC.cons_iff.2 ⟨va, vk, zs, xs', F1, G1, rfl, h2, h3, rfl, h5, g1⟩, g2⟩

theorem OwnC.text {w : World} {b : NV} {F : List Nat} (t : ByteArray) (h : OwnC w b.cells [b.x] F) : OwnC w (b.withText t).cells [(b.withText t).x] F := by
  obtain ⟨zs, F1, h1, h2, rfl, h4⟩ := h.one
  obtain ⟨⟨k, n, ats, t0, ks⟩, va, vk⟩ := b
  exact OwnC.mk_one (b := ⟨.mk k n ats t ks, va, vk⟩) h1 h2 h4

theorem ownC_merge {w : World} : ∀ (L out : List NV) (F Fo : List Nat), OwnC w (cellsV L) (L.map NV.x) F → OwnC w (cellsV out) (out.map NV.x) Fo → ∃ F', OwnC w (cellsV (L.foldl pushV out)) ((L.foldl pushV out).map NV.x) F' ∧ F'.Sublist (Fo ++ F) := by
  intro L
  induction L with
  | nil => intro out F Fo h ho; rw [OwnC.eq_def] at h; exact ⟨Fo, ho, by simp⟩
  | cons b r ih =>
    intro out F Fo h ho
    rw [cellsV_cons, ← List.singleton_append, List.map_append] at h
    obtain ⟨Fb, Fr, rfl, hb, hr⟩ := OwnC.split [b.x] b.cells F rfl h
    rw [List.foldl_cons]
    have key : ∃ Fp, OwnC w (cellsV (pushV out b)) ((pushV out b).map NV.x) Fp ∧ Fp.Sublist (Fo ++ Fb) := by
      cases hbr : bareV b
      · rcases List.eq_nil_or_concat out with rfl | ⟨o, y, rfl⟩
        · rw [pushV_nil hbr, cellsV_one]
          exact ⟨Fb, hb, List.sublist_append_right _ _⟩
        · rw [List.concat_eq_append] at ho ⊢
          rw [pushV_snoc hbr]
          split
          · rw [cellsV_snoc, List.map_append] at ho
            obtain ⟨G1, G2, rfl, g1, g2⟩ := OwnC.split (o.map NV.x) (cellsV o) Fo (by rw [cellsV_len, List.length_map]) ho
            refine ⟨G1 ++ G2, ?_, List.sublist_append_left _ _⟩
            rw [cellsV_snoc, List.map_append]
            exact OwnC.append (OwnC.text _ g2) _ _ _ g1
          · refine ⟨Fo ++ Fb, ?_, List.Sublist.refl _⟩
            rw [cellsV_snoc, List.map_append]
            exact OwnC.append hb _ _ _ ho
      · rw [pushV_bare hbr]
        exact ⟨Fo, ho, List.sublist_append_left _ _⟩
    obtain ⟨Fp, hp, hs⟩ := key
    obtain ⟨F', h1, h2⟩ := ih (pushV out b) Fr Fp hr hp
    refine ⟨F', h1, h2.trans ?_⟩
    rw [← List.append_assoc]
    exact List.Sublist.append hs (List.Sublist.refl _)

def FreshB (B : Nat) (l : List Nd) (w : World) (e : Ending) (w' : World) : Prop := ∃ v', e = .returned v' ∧ Fresh w' B v' l ∧ Below w.heap.size w w'

end Go.Proofs.Yteefodibpjgicaa

/- Package dom: Merge, walked. -/
namespace Go.Proofs.Yteefodibpjgicaa
open Go.RowKit


end Go.Proofs.Yteefodibpjgicaa

/- Package dom: the same. -/
namespace Go.Proofs.Yteefodibpjgicaa
open Go.RowKit

def oneSame (x y : Nd) : Bool := x.kind == y.kind && M3.eqB x.name y.name && M3.eqB x.text y.text && M3.sameA x.attrs y.attrs && M3.sameN x.kids y.kids
theorem sameA_drop (a b : List Att) (i : Nat) (h : i < a.length) (h2 : i < b.length) : M3.sameA (a.drop i) (b.drop i) = (M3.eqB a[i].name b[i].name && M3.eqB a[i].value b[i].value && M3.sameA (a.drop (i + 1)) (b.drop (i + 1))) := by
  rw [List.drop_eq_getElem_cons h, List.drop_eq_getElem_cons h2, M3.sameA]
theorem sameN_drop (a b : List Nd) (i : Nat) (h : i < a.length) (h2 : i < b.length) : M3.sameN (a.drop i) (b.drop i) = (oneSame a[i] b[i] && M3.sameN (a.drop (i + 1)) (b.drop (i + 1))) := by
  rw [List.drop_eq_getElem_cons h, List.drop_eq_getElem_cons h2, M3.sameN_cons]; rfl


end Go.Proofs.Yteefodibpjgicaa

/- Package dom: the same, walked on. -/
namespace Go.Proofs.Yteefodibpjgicaa
open Go.RowKit

def SamePost (r : Bool) (w : World) (e : Ending) (w' : World) : Prop := e = .returned (.bool r) ∧ Below w.heap.size w w'


end Go.Proofs.Yteefodibpjgicaa

/- Package dom: Same. -/
namespace Go.Proofs.Yteefodibpjgicaa
open Go.RowKit


end Go.Proofs.Yteefodibpjgicaa

/- The reference of layer 3: the same. -/
namespace Go.Proofs.Yteefodibpjgicaa
open Go.RowKit


set_option maxHeartbeats 8000000 in
set_option maxRecDepth 100000 in
theorem ref03Same (wt : Nat) : ∀ (S : Nat → Prop) (a b : List Nd) (va vb : Value) (w : World), M3.weight a < wt → (∀ b, S b → b < w.heap.size) → RepN S w va a → RepN S w vb b → Calls Try.prog 11 #[va, vb] w (SamePost (M3.sameN a b) w) := by
  induction wt with
  | zero => intro S a b va vb w h; omega
  | succ wt ih =>
  intro S a b va vb w hwt hS ha hb
  obtain ⟨a1, cap1, rfl⟩ := ha.slice
  obtain ⟨a2, cap2, rfl⟩ := hb.slice
  obtain ⟨_, hl1, hm1⟩ := ha.len
  obtain ⟨_, hl2, hm2⟩ := hb.len
  replace ih := Lib.hid ih
  by_cases hne : a.length = b.length
  · have hz : ((a.length : Int) == (b.length : Int)) = true := by simp [hne]
    have h0 : Hid (M3.sameN a b = M3.sameN (a.drop 0) (b.drop 0)) := rfl
    replace hne := Lib.hid hne
    go_enter Try.func11, Try.ntmps11
    go_wp2
    go_loopw [5] (fun u5 wr => ∃ i : Nat, i ≤ a.length ∧ u5 = .int .i64 (i : Int) ∧ Hid (M3.sameN a b = M3.sameN (a.drop i) (b.drop i)) ∧ Below w.heap.size w wr) (fun u5 _ => a.length - (intOf u5).toNat)
    case atStart => exact ⟨0, by omega, rfl, h0, Below.refl _ _⟩
    case round =>
      obtain ⟨i, hi, rfl, hv, hbw⟩ := hrel
      clear h0
      have hzw := hbw.size
      by_cases hlt : i < a.length
      · have hlt2 : i < b.length := by have := hne.out; omega
        have hI0 : (0 : Int) ≤ (i : Int) := by omega
        have hI1 : (i : Int) < (a.length : Int) := by omega
        have hI2 : (i : Int) < (b.length : Int) := by omega
        obtain ⟨b1, off1, va, vk, rfl, hS1, c0, c1, c2, c3, c4, hrx⟩ := (ha.below hS hbw).at_ i hlt
        obtain ⟨b2, off2, vb, vl, rfl, hS2, d0, d1, d2, d3, d4, hry⟩ := (hb.below hS hbw).at_ i hlt2
        have hsd := sameN_drop a b i hlt hlt2
        have hwx := weight_mem (List.getElem_mem hlt)
        generalize a[i] = x at *
        generalize b[i] = y at *
        obtain ⟨a5, c5, rfl⟩ := hrx.at_.slice
        obtain ⟨a6, c6, rfl⟩ := hrx.kids.slice
        obtain ⟨a7, c7, rfl⟩ := hry.at_.slice
        obtain ⟨a8, c8, rfl⟩ := hry.kids.slice
        have hx1 := (Below.refl wr.heap.size wr).alloc (Nat.le_refl _) (.cells (x.cells (.slice a5 x.attrs.length c5) (.slice a6 x.kids.length c6)).toArray 44)
        have hl2 : b2 < wr.heap.size := by have := hS b2 hS2; omega
        have d0' := (hx1.cell (p := ⟨b2, off2 + i * 5, none⟩) hl2).trans d0
        have d1' := (hx1.cell (p := ⟨b2, off2 + i * 5 + 1, none⟩) hl2).trans d1
        have d2' := (hx1.cell (p := ⟨b2, off2 + i * 5 + 2, none⟩) hl2).trans d2
        have d3' := (hx1.cell (p := ⟨b2, off2 + i * 5 + 3, none⟩) hl2).trans d3
        have d4' := (hx1.cell (p := ⟨b2, off2 + i * 5 + 4, none⟩) hl2).trans d4
        have hB2 := hx1.alloc (by simp) (.cells (y.cells (.slice a7 y.attrs.length c7) (.slice a8 y.kids.length c8)).toArray 44)
        have b0 := (Box.new wr 44 (x.cells (.slice a5 x.attrs.length c5) (.slice a6 x.kids.length c6))).alloc (.cells (y.cells (.slice a7 y.attrs.length c7) (.slice a8 y.kids.length c8)).toArray 44)
        have b1' := Box.new (wr.alloc (.cells (x.cells (.slice a5 x.attrs.length c5) (.slice a6 x.kids.length c6)).toArray 44)) 44 (y.cells (.slice a7 y.attrs.length c7) (.slice a8 y.kids.length c8))
        simp only [World.size_alloc] at b1'
        have hih := Lib.hid (fun W (hW : Below wr.heap.size wr W) => ih.out S x.kids y.kids (.slice a6 x.kids.length c6) (.slice a8 y.kids.length c8) W (by omega) (fun b h => by have := hS b h; have := hW.size; omega) (RepN.below (w := wr) (B := wr.heap.size) hrx.kids (fun b h => by have := hS b h; omega) hW) (RepN.below (w := wr) (B := wr.heap.size) hry.kids (fun b h => by have := hS b h; omega) hW))
        have hatx := fun W (hW : Below wr.heap.size wr W) => Row.below (w := wr) (B := wr.heap.size) hrx.at_ (fun b h => by have := hS b h; omega) hW
        have haty := fun W (hW : Below wr.heap.size wr W) => Row.below (w := wr) (B := wr.heap.size) hry.at_ (fun b h => by have := hS b h; omega) hW
        replace hsd := hv.out.trans hsd
        clear hv ih hrx hry ha hb
        have hsame : oneSame x y = (x.kind == y.kind && (x.name.toList == y.name.toList) && (x.text.toList == y.text.toList) && M3.sameA x.attrs y.attrs && M3.sameN x.kids y.kids) := rfl
        rw [hsame] at hsd
        clear hsame
        cases x with | mk k1 n1 ats1 t1 ks1 =>
        cases y with | mk k2 n2 ats2 t2 ks2 =>
        simp only [Nd.kind, Nd.name, Nd.text, Nd.attrs, Nd.kids, Nd.cells] at *
        replace hatx := Lib.hid hatx
        replace haty := Lib.hid haty
        cases he1 : (k1 == k2)
        · have hk : ¬ k1 = k2 := by simpa using he1
          replace hsd : Hid (M3.sameN a b = false) := by show _ = _; rw [hsd, he1]; rfl
          go_wp2_with (fail)
          go_ret
          exact ⟨by rw [hsd.out]; rfl, hbw.trans (hB2.mono hzw)⟩
        · obtain rfl : k1 = k2 := by simpa using he1
          cases he2 : (n1.toList == n2.toList)
          · replace hsd : Hid (M3.sameN a b = false) := by show _ = _; rw [hsd, he1, he2]; rfl
            go_wp2_with (fail)
            go_ret
            exact ⟨by rw [hsd.out]; rfl, hbw.trans (hB2.mono hzw)⟩
          · cases he3 : (t1.toList == t2.toList)
            · replace hsd : Hid (M3.sameN a b = false) := by show _ = _; rw [hsd, he1, he2, he3]; rfl
              go_wp2_with (fail)
              go_ret
              exact ⟨by rw [hsd.out]; rfl, hbw.trans (hB2.mono hzw)⟩
            · by_cases hla : ats1.length = ats2.length
              · have hla1 : ((ats1.length : Int) == (ats2.length : Int)) = true := by simp [hla]
                have hla2 : (ats1.length : Int) = (ats2.length : Int) := by omega
                rw [he1, he2, he3] at hsd
                replace hsd := Lib.hid hsd
                replace hla := Lib.hid hla
                clear hla2
                go_wp2_with (fail)
                rw [show ((ats1.length : Int) != (ats2.length : Int)) = false by simp [hla.out]]
                clear hla1
                obtain ⟨wo, rfl⟩ : ∃ wo : World, wo = wr := ⟨_, rfl⟩
                have h1 : Hid (M3.sameA ats1 ats2 = M3.sameA (ats1.drop 0) (ats2.drop 0)) := rfl
                go_loopw [8] (fun u8 wr => ∃ k : Nat, k ≤ ats1.length ∧ u8 = .int .i64 (k : Int) ∧ Hid (M3.sameA ats1 ats2 = M3.sameA (ats1.drop k) (ats2.drop k)) ∧ Below wo.heap.size wo wr ∧ Box wr wo.heap.size 44 [.int .i64 k1, .string n1, .slice a5 ats1.length c5, .string t1, .slice a6 ks1.length c6] ∧ Box wr (wo.heap.size + 1) 44 [.int .i64 k1, .string n2, .slice a7 ats2.length c7, .string t2, .slice a8 ks2.length c8]) (fun u8 _ => ats1.length - (intOf u8).toNat)
                case atStart => exact ⟨0, by omega, rfl, h1, hB2, b0, b1'⟩
                case round =>
                  obtain ⟨k, hk, rfl, hA, hbi, hx8, hy8⟩ := hrel
                  have g1 := hx8.cell (i := 2) rfl
                  have g2 := hy8.cell (i := 2) rfl
                  have g3 := hx8.cell (i := 4) rfl
                  have g4 := hy8.cell (i := 4) rfl
                  clear h1 hB2 b0 b1' d0' d1' d2' d3' d4' c0 c1 c2 c3 c4 d0 d1 d2 d3 d4 hx1
                  by_cases hlk : k < ats1.length
                  · have hlk2 : k < ats2.length := by have := hla.out; omega
                    have hJ0 : (0 : Int) ≤ (k : Int) := by omega
                    have hJ1 : (k : Int) < (ats1.length : Int) := by omega
                    have hJ2 : (k : Int) < (ats2.length : Int) := by omega
                    obtain ⟨_, hl5, hm5⟩ := (hatx.out wr hbi).len
                    have hb63 : Hid (ats1.length ≤ 9223372036854775807) := Nat.le_trans hl5 hm5
                    clear hl5 hm5
                    obtain ⟨b3, off3, rfl, hS3, p0, p1⟩ := (hatx.out wr hbi).atA k hlk
                    obtain ⟨b4, off4, rfl, hS4, p2, p3⟩ := (haty.out wr hbi).atA k hlk2
                    have hsa := sameA_drop ats1 ats2 k hlk hlk2
                    generalize ats1[k].name = m1 at *
                    generalize ats1[k].value = x1 at *
                    generalize ats2[k].name = m2 at *
                    generalize ats2[k].value = x2 at *
                    replace hA := hA.out.trans hsa
                    have q1 : M3.eqB m1 m2 = (m1.toList == m2.toList) := rfl
                    have q2 : M3.eqB x1 x2 = (x1.toList == x2.toList) := rfl
                    clear hsa
                    cases he4 : (m1.toList == m2.toList)
                    · clear q2
                      replace hA : Hid (M3.sameA ats1 ats2 = false) := by show _ = _; rw [hA, q1, he4]; rfl
                      go_wp2_with (fail)
                      go_region_held3 (fun w' => w'.cell? ⟨wo.heap.size, 2, none⟩ = some (.slice (some ⟨b3, off3, none⟩) ats1.length c5) ∧ w'.cell? ⟨wo.heap.size + 1, 2, none⟩ = some (.slice (some ⟨b4, off4, none⟩) ats2.length c7) ∧ w'.cell? ⟨b3, off3 + k * 2, none⟩ = some (.string m1) ∧ w'.cell? ⟨b3, off3 + k * 2 + 1, none⟩ = some (.string x1) ∧ w'.cell? ⟨b4, off4 + k * 2, none⟩ = some (.string m2) ∧ w'.cell? ⟨b4, off4 + k * 2 + 1, none⟩ = some (.string x2))
                        (first
                          | go_keep
                          | assumption)
                        (first
                          | fail)
                      go_wp2_with (fail)
                      go_ret
                      exact ⟨by rw [hsd.out, hA.out]; rfl, hbw.trans ((hbi.trans ((Below.refl _ wr).drew.mono (by have := hbi.size; omega))).mono hzw)⟩
                    · cases he5 : (x1.toList == x2.toList)
                      · replace hA : Hid (M3.sameA ats1 ats2 = false) := by show _ = _; rw [hA, q1, q2, he4, he5]; rfl
                        go_wp2_with (fail)
                        go_region_held3 (fun w' => w'.cell? ⟨wo.heap.size, 2, none⟩ = some (.slice (some ⟨b3, off3, none⟩) ats1.length c5) ∧ w'.cell? ⟨wo.heap.size + 1, 2, none⟩ = some (.slice (some ⟨b4, off4, none⟩) ats2.length c7) ∧ w'.cell? ⟨b3, off3 + k * 2, none⟩ = some (.string m1) ∧ w'.cell? ⟨b3, off3 + k * 2 + 1, none⟩ = some (.string x1) ∧ w'.cell? ⟨b4, off4 + k * 2, none⟩ = some (.string m2) ∧ w'.cell? ⟨b4, off4 + k * 2 + 1, none⟩ = some (.string x2))
                          (first
                            | go_keep
                            | assumption)
                          (first
                            | fail)
                        go_wp2_with (fail)
                        go_ret
                        exact ⟨by rw [hsd.out, hA.out]; rfl, hbw.trans ((hbi.trans ((Below.refl _ wr).drew.mono (by have := hbi.size; omega))).mono hzw)⟩
                      · replace hA : Hid (M3.sameA ats1 ats2 = M3.sameA (ats1.drop (k + 1)) (ats2.drop (k + 1))) := by show _ = _; rw [hA, q1, q2, he4, he5]; rfl
                        go_wp2_with (fail)
                        go_region_held3 (fun w' => w'.cell? ⟨wo.heap.size, 2, none⟩ = some (.slice (some ⟨b3, off3, none⟩) ats1.length c5) ∧ w'.cell? ⟨wo.heap.size + 1, 2, none⟩ = some (.slice (some ⟨b4, off4, none⟩) ats2.length c7) ∧ w'.cell? ⟨b3, off3 + k * 2, none⟩ = some (.string m1) ∧ w'.cell? ⟨b3, off3 + k * 2 + 1, none⟩ = some (.string x1) ∧ w'.cell? ⟨b4, off4 + k * 2, none⟩ = some (.string m2) ∧ w'.cell? ⟨b4, off4 + k * 2 + 1, none⟩ = some (.string x2))
                          (first
                            | go_keep
                            | assumption)
                          (first
                            | fail)
                        go_wp2_with (fail)
                        go_roundw
                        case rel => exact ⟨k + 1, by omega, by rw [IntWalk.wrap64_in _ (by have := hb63.out; omega)]; rfl, hA, hbi.trans ((Below.refl _ wr).drew.mono (by have := hbi.size; omega)), hx8.below ((Below.refl _ wr).drew) hx8.lt, hy8.below ((Below.refl _ wr).drew) hy8.lt⟩
                        case measure => clear hA hsd; rw [IntWalk.wrap64_in _ (by have := hb63.out; omega)]; exact meas_nat hlk
                  · obtain rfl : k = ats1.length := by omega
                    have hs : Hid (M3.sameA ats1 ats2 = true) := by
                      show _ = _
                      rw [hA.out, List.drop_length, hla.out, List.drop_length]; rfl
                    clear hA
                    go_wp2_with (fail)
                    refine (hih.out _ hbi).mono ?_
                    rintro e w9 ⟨rfl, hb9⟩
                    have hzi := hbi.size
                    have hbo : Below wo.heap.size wo w9 := hbi.trans (hb9.mono hzi)
                    generalize M3.sameN ks1 ks2 = r at *
                    cases r
                    · go_wp2_with (fail)
                      go_ret
                      exact ⟨by rw [hsd.out, hs.out]; rfl, hbw.trans (hbo.mono hzw)⟩
                    · go_wp2_with (fail)
                      go_roundw
                      case rel => exact ⟨i + 1, by omega, by go_num, by show _ = _; rw [hsd.out, hs.out]; simp, hbw.trans (hbo.mono hzw)⟩
                      case measure => simp [intOf]; omega
              · have hla1 : ((ats1.length : Int) == (ats2.length : Int)) = false := by simpa using fun h => hla (by omega)
                replace hsd : Hid (M3.sameN a b = false) := by show _ = _; rw [hsd, M3.sameA_len _ _ hla]; simp
                go_wp2_with (fail)
                go_ret
                exact ⟨by rw [hsd.out]; rfl, hbw.trans (hB2.mono hzw)⟩
      · obtain rfl : i = a.length := by omega
        have hs : Hid (M3.sameN a b = true) := by
          show _ = _
          rw [hv.out, List.drop_length, hne.out, List.drop_length]; exact M3.sameN_nil
        clear hv
        go_wp2
        go_ret
        exact ⟨by rw [hs.out]; rfl, hbw⟩
  · have hs : Hid (M3.sameN a b = false) := M3.sameN_len a b hne
    have hz : ((a.length : Int) == (b.length : Int)) = false := by simpa using fun h => hne (by omega)
    go_enter Try.func11, Try.ntmps11
    go_wp2
    go_ret
    exact ⟨by rw [hs.out]; rfl, Below.refl _ _⟩

end Go.Proofs.Yteefodibpjgicaa

/- Layer 3: few nodes are few, and light. -/
namespace Go.Proofs.Yteefodibpjgicaa
open Go.RowKit

theorem few_size (s : ByteArray) : (M3.few s).size ≤ 30 := by
  unfold M3.few
  split
  · simp [ByteArray.size_extract]; omega
  · omega
theorem cut_weight (l : List Nd) (m : Nat) : M3.weight (M3.cut l m).1 + 6 * (M3.cut l m).2 ≤ 6 * m := by
  induction l using Nd.ind generalizing m with
  | h0 => rw [M3.cut_nil, M3.weight_nil]; simp
  | h1 k n a t ks r ih1 ih2 =>
    cases m with
    | zero => rw [M3.cut_zero, M3.weight_nil]; simp
    | succ m =>
      rw [M3.cut_cons, M3.weight_cons]
      have h1 := ih1 m
      have h2 := ih2 (M3.cut ks m).2
      simp only [Nd.kids, Nd.attrs]
      have h3 : ((a.take 5).map M3.fewA).length ≤ 5 := by simp; omega
      omega
theorem fewN_weight (l : List Nd) : M3.weight (fewN l) ≤ 240 := by
  have := cut_weight l 40
  unfold fewN
  omega
theorem cut_fit (l : List Nd) (m : Nat) (hm : m ≤ 1000) : FitN (M3.cut l m).1 := by
  induction l using Nd.ind generalizing m with
  | h0 => rw [M3.cut_nil]; exact fitN_nil
  | h1 k n a t ks r ih1 ih2 =>
    cases m with
    | zero => rw [M3.cut_zero]; exact fitN_nil
    | succ m =>
      rw [M3.cut_cons]
      have h1 := cut_weight ks m
      have h3 : ((a.take 5).map M3.fewA).length ≤ 5 := by simp; omega
      refine fitN_cons.2 ⟨⟨Nat.le_trans (few_size _) (by omega), Nat.le_trans (few_size _) (by omega), ?_, ?_⟩, ih1 m (by omega), ih2 _ (by have := M3.cut_le ks m; simp only [Nd.kids]; omega)⟩
      · intro b hb
        simp only [Nd.attrs] at hb
        obtain ⟨c, _, rfl⟩ := List.mem_map.1 hb
        exact ⟨Nat.le_trans (few_size _) (by omega), Nat.le_trans (few_size _) (by omega)⟩
      · simp only [Nd.attrs, Nd.kids]
        omega
theorem fewN_fit (l : List Nd) : FitN (fewN l) := cut_fit l 40 (by omega)
theorem fitN_append {a b : List Nd} : FitN (a ++ b) ↔ FitN a ∧ FitN b := by
  induction a with
  | nil => simp [fitN_nil]
  | cons x r ih => rw [List.cons_append, fitN_cons, fitN_cons, ih]; simp [and_assoc]
theorem fitN_take {l : List Nd} (h : FitN l) (k : Nat) : FitN (l.take k) := (fitN_append.1 (by rw [List.take_append_drop]; exact h : FitN (l.take k ++ l.drop k))).1
theorem fitN_drop {l : List Nd} (h : FitN l) (k : Nat) : FitN (l.drop k) := (fitN_append.1 (by rw [List.take_append_drop]; exact h : FitN (l.take k ++ l.drop k))).2
end Go.Proofs.Yteefodibpjgicaa

/- Layer 3: merged nodes are the document's, and merged again the same. -/
namespace Go.Proofs.Yteefodibpjgicaa
open Go.RowKit

theorem weight_push (out : List Nd) (x : Nd) : M3.weight (M3.push out x) ≤ M3.weight out + M3.weight [x] := by
  cases h : M3.bareB x
  · rcases List.eq_nil_or_concat out with rfl | ⟨o, y, rfl⟩
    · rw [M3.push_none h]; omega
    · rw [List.concat_eq_append, M3.push_snoc h]
      split
      · rw [M3.weight_append, M3.weight_append]
        have : M3.weight [M3.withText y (M3.cat y.text x.text)] = M3.weight [y] := by
          rw [M3.weight_cons, M3.weight_cons, M3.withText_attrs, M3.withText_kids]
        omega
      · rw [M3.weight_append]; omega
  · rw [M3.push_bare h]; omega
theorem weight_merge (l : List Nd) : M3.weight (M3.merge l) ≤ M3.weight l := by
  have key : ∀ (l out : List Nd), M3.weight (l.foldl M3.push out) ≤ M3.weight out + M3.weight l := by
    intro l
    induction l with
    | nil => intro out; rw [M3.weight_nil]; exact Nat.le_refl _
    | cons x r ih =>
      intro out
      have h1 := ih (M3.push out x)
      have h2 := weight_push out x
      have h3 : M3.weight (x :: r) = M3.weight [x] + M3.weight r := by rw [← List.singleton_append, M3.weight_append]
      rw [List.foldl_cons, h3]
      omega
  have := key l []
  rw [M3.weight_nil] at this
  simpa [M3.merge] using this
theorem txtN_push (out : List Nd) (x : Nd) : txtN (M3.push out x) ≤ txtN out + x.text.size := by
  cases h : M3.bareB x
  · rcases List.eq_nil_or_concat out with rfl | ⟨o, y, rfl⟩
    · rw [M3.push_none h, txtN_cons]; exact Nat.le_of_eq (by rw [Nat.add_comm])
    · rw [List.concat_eq_append, M3.push_snoc h]
      split
      · rw [txtN_append, txtN_append, txtN_cons, txtN_cons, M3.withText_text, cat_size]
        have : txtN [] = 0 := rfl
        omega
      · rw [txtN_append, txtN_cons]
        have : txtN [] = 0 := rfl
        omega
  · rw [M3.push_bare h]; omega
theorem txtN_merge (l : List Nd) : txtN (M3.merge l) ≤ txtN l := by
  have key : ∀ (l out : List Nd), txtN (l.foldl M3.push out) ≤ txtN out + txtN l := by
    intro l
    induction l with
    | nil => intro out; exact Nat.le_add_right _ _
    | cons x r ih =>
      intro out
      have h1 := ih (M3.push out x)
      have h2 := txtN_push out x
      rw [List.foldl_cons, txtN_cons]
      omega
  have := key l []
  have h0 : txtN ([] : List Nd) = 0 := rfl
  rw [h0] at this
  simpa [M3.merge] using this
theorem txtN_fit (l : List Nd) (b : Nat) (h : ∀ x ∈ l, x.text.size ≤ b) : txtN l ≤ l.length * b := by
  induction l with
  | nil => exact Nat.zero_le _
  | cons x r ih =>
    rw [txtN_cons, List.length_cons, Nat.add_mul]
    have h1 := h x (by simp)
    have h2 := ih (fun y hy => h y (by simp [hy]))
    omega
theorem cut_text (l : List Nd) (m : Nat) : ∀ x ∈ (M3.cut l m).1, x.text.size ≤ 30 := by
  induction l generalizing m with
  | nil => intro x hx; rw [M3.cut_nil] at hx; cases hx
  | cons y r ih =>
    intro x hx
    cases m with
    | zero => rw [M3.cut_zero] at hx; cases hx
    | succ m =>
      rw [M3.cut_cons] at hx
      rcases List.mem_cons.1 hx with rfl | hx
      · exact few_size _
      · exact ih _ x hx
theorem fewN_txt (l : List Nd) : txtN (fewN l) ≤ 7200 := by
  have h1 := txtN_fit (fewN l) 30 (cut_text l 40)
  have h2 := M3.length_le_weight (fewN l)
  have h3 := fewN_weight l
  omega


end Go.Proofs.Yteefodibpjgicaa

/- The reference of layer 3: which nodes may be. -/
namespace Go.Proofs.Yteefodibpjgicaa
open Go.RowKit

def seenA (ats : List Att) (i : Nat) : List ByteArray := (ats.take i).map Att.name

theorem seenA_len (ats : List Att) (i : Nat) (h : i ≤ ats.length) : (seenA ats i).length = i := by simp [seenA]; omega

theorem seenA_get (ats : List Att) (i k : Nat) (hk : k < i) (hi : i ≤ ats.length) : (seenA ats i)[k]? = some ats[k].name := by
  unfold seenA
  rw [List.getElem?_map, List.getElem?_take, if_pos hk, List.getElem?_eq_getElem (by omega)]
  rfl

theorem names_at' (ats : List Att) (i : Nat) (h : i < ats.length) : M3.namesE (seenA ats i) (ats.drop i) = if M3.attributedB ats[i].name.data.toList then (if (seenA ats i).any (M3.eqB ats[i].name) then 5 else M3.namesE (seenA ats (i + 1)) (ats.drop (i + 1))) else 4 := by
  have htk : seenA ats (i + 1) = seenA ats i ++ [ats[i].name] := by
    unfold seenA
    rw [List.take_succ_eq_append_getElem h, List.map_append]; rfl
  rw [List.drop_eq_getElem_cons h, M3.namesE, htk]

theorem values_at (ats : List Att) (i : Nat) (h : i < ats.length) : M3.valuesE (ats.drop i) = if M1.isB ats[i].value.data.toList then M3.valuesE (ats.drop (i + 1)) else 2 := by
  rw [List.drop_eq_getElem_cons h, M3.valuesE]

theorem any_at {l : List ByteArray} {p : ByteArray → Bool} {k : Nat} {s : ByteArray} (h : l[k]? = some s) (hp : p s = true) : l.any p = true :=
  List.any_eq_true.2 ⟨s, List.mem_of_getElem? h, hp⟩

theorem eqB_comm (s t : ByteArray) : M3.eqB s t = (t.toList == s.toList) := by
  unfold M3.eqB
  rw [Bool.eq_iff_iff, beq_iff_eq, beq_iff_eq]
  exact eq_comm

def IntPost (n : Int) (w : World) (e : Ending) (w' : World) : Prop := e = .returned (.int .i64 n) ∧ Below w.heap.size w w'

end Go.Proofs.Yteefodibpjgicaa

/- The reference of layer 3: which nodes may be, walked on. -/
namespace Go.Proofs.Yteefodibpjgicaa
open Go.RowKit

end Go.Proofs.Yteefodibpjgicaa

/- Layer 3: texts side by side are merged, and then may be. -/
namespace Go.Proofs.Yteefodibpjgicaa
open Go.RowKit Go.ChangeShapes Go.WideShapes

section
variable {H : Type} {enc : TypeId × Value → H} {w : World} {base : Nat} {spare : Nat → Bool} {held : Bool}
theorem open_texts {fuel : Nat} {cs : List Value} {x : DataW H × List MemPlace} (h : DataW.trod enc Try.prog w base spare held fuel 35 cs = some x) :
    ∃ (v : Value) (L : List ByteArray), cs = [v] ∧ Row (fun b => b < w.heap.size) w 1 v L.length (L.flatMap fun s => [.string s]) ∧ ∀ s ∈ L, s.size ≤ 9223372036854775807 :=
  open_rows Try.underlying35 (cell1 9 (Or.inl rfl)) (by decide) h (fun s : ByteArray => [.string s]) (fun _ => rfl) (fun s : ByteArray => s.size ≤ 9223372036854775807) (fun n cs' y _ hl h => by
    obtain ⟨s, e, _, z⟩ := DataW.trod_string Try.underlying9 h
    unfold maxLen at z
    exact ⟨s, e, by omega⟩)
end
theorem Row.atS {S : Nat → Prop} {w : World} {a : Option Addr} {n cap : Nat} {l : List ByteArray} (h : Row S w 1 (.slice a n cap) l.length (l.flatMap fun s => [.string s])) (i : Nat) (hi : i < l.length) :
    ∃ b off, a = some ⟨b, off, none⟩ ∧ S b ∧ w.cell? ⟨b, off + i, none⟩ = some (.string l[i]) := by
  obtain ⟨h0, a', cap', h1, h2, h3, h4, h5⟩ := h
  cases h1
  obtain ⟨b, off, rfl, h7, h8⟩ := h5 (by omega)
  refine ⟨b, off, rfl, h7, h8 i _ ?_⟩
  have : l.flatMap (fun s => [Value.string s]) = l.map Value.string := (List.map_eq_flatMap).symm
  rw [this, List.getElem?_map, List.getElem?_eq_getElem hi]; rfl

theorem fitN_iff {l : List Nd} : FitN l ↔ ∀ x ∈ l, Fit1 x ∧ FitN x.kids := by
  induction l with
  | nil => simp [fitN_nil]
  | cons x r ih => rw [fitN_cons, ih]; simp; exact ⟨fun h => ⟨⟨h.1, h.2.1⟩, h.2.2⟩, fun h => ⟨h.1.1, h.1.2, h.2⟩⟩
theorem fit_merge {l : List Nd} (h : FitN l) (ht : txtN l ≤ 268435456) : FitN (M3.merge l) := by
  have h1 := M3.merge_all (P := fun x => (x.name.size ≤ 268435456 ∧ (∀ a ∈ x.attrs, a.name.size ≤ 268435456 ∧ a.value.size ≤ 268435456) ∧ 1 + x.attrs.length + M3.weight x.kids ≤ 1000000) ∧ FitN x.kids)
    (fun x y hx _ _ _ => by rw [M3.withText_name, M3.withText_attrs, M3.withText_kids]; exact hx) l (fun x hx => by have := fitN_iff.1 h x hx; exact ⟨⟨this.1.1, this.1.2.2.1, this.1.2.2.2⟩, this.2⟩)
  have h2 := txtN_merge l
  refine fitN_iff.2 (fun x hx => ?_)
  obtain ⟨⟨q1, q2, q3⟩, q4⟩ := h1 x hx
  have := txtN_mem hx
  exact ⟨⟨q1, by omega, q2, q3⟩, q4⟩

def few20 (s : ByteArray) : ByteArray := if 20 < s.size then s.extract 0 20 else s
theorem few20_size (s : ByteArray) : (few20 s).size ≤ 20 := by
  unfold few20
  split
  · simp; omega
  · omega
/-- A text that is right, a comment. -/
def txV (t : ByteArray) : NV := ⟨.mk 2 ⟨#[]⟩ [] t [], .slice none 0 0, .slice none 0 0⟩
def coV : NV := ⟨.mk 3 ⟨#[]⟩ [] ⟨#[99]⟩ [], .slice none 0 0, .slice none 0 0⟩
def Plain6 (A : List NV) : Prop := ∀ b ∈ A, (∃ t, b = txV t ∧ M1.isB t.data.toList = true ∧ t.size ≤ 80) ∨ b = coV
theorem isB_c : M1.isB [99] = true := by rw [isB_low _ _ (by decide) (by decide) (by decide), M1.isB_nil]
theorem plain_ok {A : List NV} (h : Plain6 A) : ∀ x ∈ A.map NV.x, M3.okP x := by
  intro x hx
  obtain ⟨b, hb, rfl⟩ := List.mem_map.1 hx
  rcases h b hb with ⟨t, rfl, h1, _⟩ | rfl
  · exact ⟨by unfold M3.plainB; rw [nilB_data]; rfl, h1⟩
  · refine ⟨?_, M3.mayE_nil _⟩
    show M3.oneE (.mk 3 ⟨#[]⟩ [] ⟨#[99]⟩ []) false = 0
    rw [M3.oneE_mk]
    have : M1.isB (⟨#[99]⟩ : ByteArray).data.toList = true := isB_c
    unfold M3.oneF M3.kindlyF M3.plainF
    rw [this, nilB_data, nilB_data]
    decide
theorem plain_fit {A : List NV} (h : Plain6 A) : FitN (A.map NV.x) := by
  refine fitN_iff.2 (fun x hx => ?_)
  obtain ⟨b, hb, rfl⟩ := List.mem_map.1 hx
  rcases h b hb with ⟨t, rfl, _, h2⟩ | rfl
  · exact ⟨⟨by show (⟨#[]⟩ : ByteArray).size ≤ _; decide, by show t.size ≤ _; omega, (fun a ha => by cases ha), by show 1 + 0 + M3.weight [] ≤ _; rw [M3.weight_nil]; omega⟩, fitN_nil⟩
  · exact ⟨⟨by show (⟨#[]⟩ : ByteArray).size ≤ _; decide, by show (⟨#[99]⟩ : ByteArray).size ≤ _; decide, (fun a ha => by cases ha), by show 1 + 0 + M3.weight [] ≤ _; rw [M3.weight_nil]; omega⟩, fitN_nil⟩
theorem plain_weight {A : List NV} (h : Plain6 A) : M3.weight (A.map NV.x) = A.length := by
  induction A with
  | nil => exact M3.weight_nil
  | cons b r ih =>
    rw [List.map_cons, M3.weight_cons, ih (fun c hc => h c (by simp [hc])), List.length_cons]
    rcases h b (by simp) with ⟨t, rfl, _, _⟩ | rfl
    · show 1 + 0 + M3.weight [] + r.length = _; rw [M3.weight_nil]; omega
    · show 1 + 0 + M3.weight [] + r.length = _; rw [M3.weight_nil]; omega
theorem plain_txt {A : List NV} (h : Plain6 A) : txtN (A.map NV.x) ≤ A.length * 80 := by
  have := txtN_fit (A.map NV.x) 80 (fun x hx => by
    obtain ⟨b, hb, rfl⟩ := List.mem_map.1 hx
    rcases h b hb with ⟨t, rfl, _, h2⟩ | rfl
    · exact h2
    · show (⟨#[99]⟩ : ByteArray).size ≤ _; decide)
  rwa [List.length_map] at this
theorem plain_rep {A : List NV} (S : Nat → Prop) (w : World) (h : Plain6 A) : ∀ b ∈ A, RepV S w b.x b.va b.vk := by
  intro b hb
  rcases h b hb with ⟨t, rfl, _, _⟩ | rfl
  · exact ⟨Row.nil _ _ _, RepN.nil _ _⟩
  · exact ⟨Row.nil _ _ _, RepN.nil _ _⟩


end Go.Proofs.Yteefodibpjgicaa

/- The reference of layer 3: May. -/
namespace Go.Proofs.Yteefodibpjgicaa
open Go.RowKit

def behind (l : List Nd) : Nat → Bool
  | 0 => false
  | i + 1 => match l[i]? with | some x => x.kind == 2 | none => false

theorem behind_succ (l : List Nd) (i : Nat) (h : i < l.length) : behind l (i + 1) = (l[i].kind == 2) := by
  show (match l[i]? with | some x => x.kind == 2 | none => false) = _
  rw [List.getElem?_eq_getElem h]

theorem may_drop (l : List Nd) (i : Nat) (h : i < l.length) : M3.mayE (behind l i) (l.drop i) = if M3.oneE l[i] (behind l i) ≠ 0 then M3.oneE l[i] (behind l i) else if M3.mayE false l[i].kids ≠ 0 then M3.mayE false l[i].kids else M3.mayE (behind l (i + 1)) (l.drop (i + 1)) := by
  rw [List.drop_eq_getElem_cons h, M3.mayE_cons, behind_succ l i h]

theorem wpStill_skip {P : Program} {ops : Array Oper} {w : World} {Q : Act → Prop} {a : Act} {o : Oper} {rest : List Oper} (hw : Region.wanted o (yielded ops a.tmps) = false)
    (h : ∀ K : Act → Prop, (∀ a, wpStill P ops w Q rest a → K a) → K (a.put o.dst undef)) : wpStill P ops w Q (o :: rest) a := by
  unfold wpStill
  rw [if_neg (by simp [hw])]
  exact h _ (fun _ h => h)

end Go.Proofs.Yteefodibpjgicaa
