/- Texts joined: Cut, Open3, Clone, Clone2, Shal, Ref03m, Refs, Refs2, DomM2, Clone3, DomM3. -/
import Derived.Test.YteefodibpjgicaaGreatRows
import Derived.Deep.RegionHeld3
import Derived.Deep.AppendLies
import Derived.ChangeArms
import Derived.DataReads
import Derived.ChangeOld
import Derived.Laws.MakeOwn
import Derived.Laws.Entries
import Derived.StillTailTactics
import Derived.BigCall
import Derived.Deep.QuietTactic
import Derived.BigQuiet
import Derived.IntWalk
import Derived.Test.YteefodibpjgicaaGreatJ1
import Derived.Test.YteefodibpjgicaaGreatJ2
import Derived.Test.YteefodibpjgicaaGreatJ3
namespace Go.Proofs.YteefodibpjgicaaGreat
open Go.RowKit
theorem infoA : (Tryz.prog.info? 43).map (fun i => (i.zero, i.size, i.bytes)) = some (some (.agg #[.string ⟨#[]⟩, .string ⟨#[]⟩]), 2, 32) := by kernel_rfl
theorem infoN : (Tryz.prog.info? 41).map (fun i => (i.zero, i.size, i.bytes)) = some (some (.agg #[.int .i64 0, .string ⟨#[]⟩, .slice none 0 0, .string ⟨#[]⟩, .slice none 0 0]), 5, 88) := by kernel_rfl
set_option maxHeartbeats 1000000 in
theorem ref03few (s : ByteArray) (w : World) (hs : s.size ≤ 9223372036854775807) : Calls Tryz.prog 46 #[.string s] w fun e w' => e = .returned (.string (M3.few s)) ∧ w = w' := by
  unfold M3.few
  by_cases h : 30 < s.size
  · rw [if_pos h]
    go_enter Tryz.func46, Tryz.ntmps46
    go_wp2
    go_ret
    exact ⟨rfl, rfl⟩
  · rw [if_neg h]
    go_enter Tryz.func46, Tryz.ntmps46
    go_wp2
    go_ret
    exact ⟨rfl, rfl⟩
def SzN : List Nd → Prop
  | [] => True
  | .mk _ n a t ks :: r => (n.size ≤ 9223372036854775807 ∧ t.size ≤ 9223372036854775807 ∧ ∀ x ∈ a, x.name.size ≤ 9223372036854775807 ∧ x.value.size ≤ 9223372036854775807) ∧ SzN ks ∧ SzN r
termination_by l => SizeOf.sizeOf l
def Sz1 (x : Nd) : Prop := x.name.size ≤ 9223372036854775807 ∧ x.text.size ≤ 9223372036854775807 ∧ ∀ a ∈ x.attrs, a.name.size ≤ 9223372036854775807 ∧ a.value.size ≤ 9223372036854775807
theorem szN_cons {x : Nd} {r : List Nd} : SzN (x :: r) ↔ Sz1 x ∧ SzN x.kids ∧ SzN r := by cases x; rw [SzN]; rfl
theorem szN_mem {x : Nd} {l : List Nd} (h : SzN l) (hx : x ∈ l) : Sz1 x ∧ SzN x.kids := by
  induction l with
  | nil => cases hx
  | cons y r ih =>
    obtain ⟨h1, h2, h3⟩ := szN_cons.1 h
    rcases List.mem_cons.1 hx with rfl | hx
    · exact ⟨h1, h2⟩
    · exact ih h3 hx
def Made (w' : World) (B : Nat) (v : Value) (l : List Nd) : Prop := ∃ zs, w'.ownsRow B 41 5 v l.length zs ∧ RepC (fun b => B ≤ b ∧ b < w'.heap.size ∧ v.ownBlock ≠ some b) w' zs l
theorem Made.rep {w' : World} {B : Nat} {v : Value} {l : List Nd} (h : Made w' B v l) : RepN (fun b => B ≤ b ∧ b < w'.heap.size) w' v l := by
  obtain ⟨zs, h1, h2⟩ := h
  exact ⟨zs, Row.own h1 (fun g hg => h1.lt g hg), RepC.mono (fun b hb => ⟨hb.1, hb.2.1⟩) _ _ h2⟩
def CutPost (l : List Nd) (m : Nat) (w : World) (e : Ending) (w' : World) : Prop := ∃ v', e = .returned (.tuple #[v', .int .i64 ((M3.cut l m).2 : Int)]) ∧ Made w' w.heap.size v' (M3.cut l m).1 ∧ Below w.heap.size w w'
theorem Made.snoc {W w5 : World} {B g : Nat} {u : Value} {A : List Nd} {zs : List Value} {x : Nd} {va vk : Value} {cap n : Nat} {SA SX : Nat → Prop} (hn : n = A.length + 1)
    (hown5 : w5.ownsRow B 41 5 (.slice (some ⟨g, 0, none⟩) n cap) n (zs ++ x.cells va vk)) (hgrow : W.grownBy w5 u.ownBlock) (hat : u.ownBlock = some g ∨ W.heap.size ≤ g)
    (hA : RepC SA W zs A) (hSA : ∀ b, SA b → B ≤ b ∧ b < W.heap.size ∧ u.ownBlock ≠ some b)
    (hx : RepV SX W x va vk) (hSX : ∀ b, SX b → B ≤ b ∧ b < W.heap.size ∧ u.ownBlock ≠ some b) : Made w5 B (.slice (some ⟨g, 0, none⟩) n cap) (A ++ [x]) := by
  subst hn
  have hk : ∀ b, (B ≤ b ∧ b < W.heap.size ∧ u.ownBlock ≠ some b) → w5.heap[b]? = W.heap[b]? := fun b h => hgrow.block b h.2.1 (fun e => h.2.2 e.symm)
  have hm : ∀ b, (B ≤ b ∧ b < W.heap.size ∧ u.ownBlock ≠ some b) → B ≤ b ∧ b < w5.heap.size ∧ (Value.slice (some ⟨g, 0, none⟩) (A.length + 1) cap).ownBlock ≠ some b := fun b h => ⟨h.1, Nat.lt_of_lt_of_le h.2.1 hgrow.size, fun e => by
    simp [Value.ownBlock] at e
    subst e
    rcases hat with h1 | h1
    · exact h.2.2 h1
    · omega⟩
  refine ⟨zs ++ x.cells va vk, by simpa using hown5, RepC.append (RepC.single ((hx.keep fun b h => hk b (hSX b h)).mono fun b h => hm b (hSX b h))) _ _ ?_⟩
  exact RepC.mono (fun b h => hm b (hSA b h)) _ _ (RepC.keep (fun b h => hk b (hSA b h)) _ _ hA)
theorem own_slice {w : World} {B : Nat} {e : TypeId} {k n : Nat} {v : Value} {xs : List Value} (h : w.ownsRow B e k v n xs) : ∃ a c, v = .slice a n c := by
  rcases h.2 with ⟨rfl, rfl⟩ | ⟨g, cap, _, rfl, _⟩
  · exact ⟨_, _, rfl⟩
  · exact ⟨_, _, rfl⟩
theorem own_keep {w w' : World} {B : Nat} {e : TypeId} {k n : Nat} {v : Value} {xs : List Value} (h : w.ownsRow B e k v n xs) (hk : ∀ g, v.ownBlock = some g → w'.heap[g]? = w.heap[g]?) : w'.ownsRow B e k v n xs := by
  refine ⟨h.1, ?_⟩
  rcases h.2 with hn | ⟨g, cap, cur, rfl, hb, hg, rest⟩
  · exact .inl hn
  · exact .inr ⟨g, cap, cur, rfl, hb, (hk g rfl).trans hg, rest⟩
theorem own_base {w : World} {B B' : Nat} {e : TypeId} {k n : Nat} {v : Value} {xs : List Value} (h : w.ownsRow B e k v n xs) (hb : ∀ g, v.ownBlock = some g → B' ≤ g) : w.ownsRow B' e k v n xs := by
  refine ⟨h.1, ?_⟩
  rcases h.2 with hn | ⟨g, cap, cur, rfl, _, rest⟩
  · exact .inl hn
  · exact .inr ⟨g, cap, cur, rfl, hb g rfl, rest⟩
set_option maxHeartbeats 8000000 in
set_option maxRecDepth 100000 in
theorem ref03Cut (m : Nat) : ∀ (S : Nat → Prop) (v : Value) (l : List Nd) (w : World), (∀ b, S b → b < w.heap.size) → RepN S w v l → SzN l → m ≤ 1000 →
    Calls Tryz.prog 33 #[v, .int .i64 (m : Int)] w (CutPost l m w) := by
  induction m using Nat.strongRecOn with
  | ind m ih =>
    intro S v l w hS hr hsz hm
    obtain ⟨a, cap, rfl⟩ := hr.slice
    obtain ⟨_, hlc, hcm⟩ := hr.len
    go_enter Tryz.func33, Tryz.ntmps33
    go_wp2_with (fail)
    go_loopw [1, 6, 7] (fun u1 u6 u7 wr => ∃ (i mi : Nat) (A : List Nd), i ≤ l.length ∧ u7 = .int .i64 (i : Int) ∧ u1 = .int .i64 (mi : Int) ∧ A.length + mi ≤ m ∧ Made wr w.heap.size u6 A ∧ Below w.heap.size w wr ∧ Hid ((M3.cut l m).1 = A ++ (M3.cut (l.drop i) mi).1 ∧ (M3.cut l m).2 = (M3.cut (l.drop i) mi).2)) (fun _ _ u7 _ => l.length - (intOf u7).toNat)
    case atStart => exact ⟨0, m, [], by omega, rfl, rfl, by simp, ⟨[], World.ownsRow_nil _ _ _ _, RepC.nil _ _⟩, Below.refl _ _, rfl, rfl⟩
    case round =>
      obtain ⟨i, mi, A, hi, rfl, rfl, hAm, ⟨zs, hown, hrepA⟩, hb, hc⟩ := hrel
      obtain ⟨wo, rfl⟩ : ∃ wo : World, wo = wr := ⟨_, rfl⟩
      have hz := hb.size
      by_cases hlt : i < l.length
      · by_cases hmi : 0 < mi
        · obtain ⟨mj, rfl⟩ : ∃ mj, mi = mj + 1 := ⟨mi - 1, by omega⟩
          obtain ⟨b, off, va, vk, rfl, hSb, c0, c1, c2, c3, c4, hrv⟩ := (hr.below hS hb).at_ i hlt
          have hbl := hS b hSb
          have hdr : l.drop i = l[i] :: l.drop (i + 1) := List.drop_eq_getElem_cons hlt
          rw [hdr, M3.cut_cons] at hc
          obtain ⟨hs1, hs2⟩ := szN_mem hsz (List.getElem_mem hlt)
          clear hdr
          generalize l[i] = x at *
          obtain ⟨hat, hkd⟩ := hrv
          obtain ⟨a1, cap1, rfl⟩ := hat.slice
          obtain ⟨_, hlc1, hcm1⟩ := hat.len
          obtain ⟨a2, cap2, rfl⟩ := hkd.slice
          have hx0 := Box.new wo 41 (x.cells (.slice a1 x.attrs.length cap1) (.slice a2 x.kids.length cap2))
          have hz1 : wo.heap.size < (wo.alloc (.cells (x.cells (.slice a1 x.attrs.length cap1) (.slice a2 x.kids.length cap2)).toArray 41)).heap.size := by simp
          have hbz : Below wo.heap.size wo (wo.alloc (.cells (x.cells (.slice a1 x.attrs.length cap1) (.slice a2 x.kids.length cap2)).toArray 41)) := (Below.refl _ _).alloc (Nat.le_refl _) _
          have hfn := Lib.hid (fun W => ref03few x.name W hs1.1)
          have hft := Lib.hid (fun W => ref03few x.text W hs1.2.1)
          have hihk := fun W h1 h2 => ih mj (by omega) S (.slice a2 x.kids.length cap2) x.kids W h1 h2 hs2 (by omega)
          replace hihk := Lib.hid hihk
          go_wp2_with (fail)
          refine (hfn.out _).mono ?_
          rintro e w1 ⟨rfl, rfl⟩
          go_wp2_with (fail)
          refine (hft.out _).mono ?_
          rintro e w1 ⟨rfl, rfl⟩
          go_wp2_with (fail)
          have bx1 := Box.new wo 41 [.int .i64 x.kind, .string (M3.few x.name), .slice a1 x.attrs.length cap1, .string (M3.few x.text), .slice a2 x.kids.length cap2]
          have hbz1 : Below wo.heap.size wo (wo.alloc (.cells #[.int .i64 x.kind, .string (M3.few x.name), .slice a1 x.attrs.length cap1, .string (M3.few x.text), .slice a2 x.kids.length cap2] 41)) := (Below.refl _ _).alloc (Nat.le_refl _) _
          have hsz1 : (wo.alloc (.cells #[.int .i64 x.kind, .string (M3.few x.name), .slice a1 x.attrs.length cap1, .string (M3.few x.text), .slice a2 x.kids.length cap2] 41)).heap.size = wo.heap.size + 1 := by simp
          change Box (wo.alloc (.cells #[.int .i64 x.kind, .string (M3.few x.name), .slice a1 x.attrs.length cap1, .string (M3.few x.text), .slice a2 x.kids.length cap2] 41)) _ _ _ at bx1
          clear hx0 hz1 hbz hfn hft c0 c1 c2 c3 c4
          obtain ⟨W1, hW1⟩ : ∃ W1, wo.alloc (.cells #[.int .i64 x.kind, .string (M3.few x.name), .slice a1 x.attrs.length cap1, .string (M3.few x.text), .slice a2 x.kids.length cap2] 41) = W1 := ⟨_, rfl⟩
          rw [hW1] at bx1 hbz1 hsz1 ⊢
          clear hW1
          refine (hihk.out W1 (fun b h => by have := hS b h; omega) (hkd.keep fun b h => hbz1.block b (by have := hS b h; omega))).mono ?_
          rintro e w2 ⟨v2, rfl, ⟨zs2, hown2, hrep2⟩, hb2⟩
          obtain ⟨a3, cap3, rfl⟩ := own_slice hown2
          have hle2 := M3.cut_le x.kids mj
          have hz2 := hb2.size
          have bx2 := bx1.below hb2 (by omega)
          have d2 := bx2.cell (i := 2) rfl
          have d4 := bx2.cell (i := 4) rfl
          have f4 := bx2.free 4
          have hbr2 : Below wo.heap.size wo w2 := hbz1.trans (hb2.mono (by omega))
          clear hihk bx1
          replace hsz1 := Lib.hid hsz1
          generalize hkc : (M3.cut x.kids mj).1 = ks' at *
          generalize hmc : (M3.cut x.kids mj).2 = m2 at *
          replace hkc := Lib.hid hkc
          replace hmc := Lib.hid hmc
          go_wp2_with (fail)
          have bx3 := bx2.set 4 (.slice a3 ks'.length cap3)
          have hbr3 : Below wo.heap.size wo (w2.setCell ⟨wo.heap.size, 4, none⟩ (.slice a3 ks'.length cap3)) := hbr2.setCell (p := ⟨wo.heap.size, 4, none⟩) (Nat.le_refl _) _
          have hne2 : ∀ b, W1.heap.size ≤ b → (w2.setCell ⟨wo.heap.size, 4, none⟩ (.slice a3 ks'.length cap3)).heap[b]? = w2.heap[b]? := fun b h => Below.heap_setCell _ _ _ _ (by have := hsz1.out; simp; omega)
          have hz3 : (w2.setCell ⟨wo.heap.size, 4, none⟩ (.slice a3 ks'.length cap3)).heap.size = w2.heap.size := by simp [World.setCell]
          have hown3 := own_keep hown2 (fun g hg => hne2 g (hown2.lt g hg).1)
          have hrep3 := RepC.keep (fun b hb => hne2 b hb.1) _ _ hrep2
          simp only [List.set_cons_succ, List.set_cons_zero] at bx3
          obtain ⟨W2, hW2⟩ : ∃ W2, w2.setCell ⟨wo.heap.size, 4, none⟩ (.slice a3 ks'.length cap3) = W2 := ⟨_, rfl⟩
          rw [hW2] at bx3 hbr3 hz3 hown3 hrep3 ⊢
          clear hW2 hne2 d2 d4 f4 bx2 hown2 hrep2 hbr2
          have hgl := bx3.lt
          obtain ⟨i0, hi0, hz00, hz01, hz02⟩ := info_parts infoA
          replace hkd := Lib.hid hkd
          replace hrep3 := Lib.hid hrep3
          replace hown3 := Lib.hid hown3
          replace hrepA := Lib.hid hrepA
          replace hown := Lib.hid hown
          have hSz2 : ∀ b, S b → b < W2.heap.size := fun b h => by have := hS b h; omega
          go_loopw [9, 10] (fun u9 u10 wr => ∃ k : Nat, k ≤ 5 ∧ k ≤ x.attrs.length ∧ u10 = .int .i64 (k : Int) ∧ wr.ownsRow W2.heap.size 43 2 u9 k (cellsA ((x.attrs.take k).map M3.fewA)) ∧ Below W2.heap.size W2 wr) (fun _ u10 _ => 5 - (intOf u10).toNat)
          case atStart => exact ⟨0, by omega, by omega, rfl, World.ownsRow_nil _ _ _ _, Below.refl _ _⟩
          case round =>
            obtain ⟨k, hk5, hkl, rfl, hown4, hb4⟩ := hrel
            have hz4 := hb4.size
            have bx4 := bx3.below hb4 hgl
            have e2 := bx4.cell (i := 2) rfl
            by_cases hk : k < 5 ∧ k < x.attrs.length
            · obtain ⟨hk1, hk2⟩ := hk
              obtain ⟨b', off', rfl, hSb', q0, q1⟩ := (hat.keep (w' := wr) (fun b h => ((hb4.block b (hSz2 b h)).trans (hbr3.block b (by have := hS b h; omega))))).atA k hk2
              have hbl' := hS b' hSb'
              obtain ⟨hsa, hsb⟩ := hs1.2.2 _ (List.getElem_mem hk2)
              have htk : cellsA ((x.attrs.take (k + 1)).map M3.fewA) = cellsA ((x.attrs.take k).map M3.fewA) ++ [.string (M3.few x.attrs[k].name), .string (M3.few x.attrs[k].value)] := by
                rw [List.take_succ_eq_append_getElem hk2, List.map_append, cellsA_append]; rfl
              generalize x.attrs[k].name = nm at *
              generalize x.attrs[k].value = vl at *
              replace htk := Lib.hid htk
              have ag : u9.ownBlock ≠ some wo.heap.size := fun e => by have := (hown4.lt _ e).1; omega
              have ab : u9.ownBlock ≠ some b' := fun e => by have := (hown4.lt _ e).1; omega
              go_wp2_with (fail)
              go_region_held3 (fun w' => w'.cell? ⟨wo.heap.size, 2, none⟩ = some (.slice (some ⟨b', off', none⟩) x.attrs.length cap1) ∧ w'.cell? ⟨b', off' + k * 2, none⟩ = some (.string nm) ∧ w'.cell? ⟨b', off' + k * 2 + 1, none⟩ = some (.string vl))
                (first
                  | go_keep
                  | (go_split_ands
                     refine ⟨?_, ?_, ?_⟩
                     · (rw [hgrow.cell_far _ (by simp; omega) (Ne.symm ag)]; assumption)
                     · (rw [hgrow.cell_far _ (by simp; omega) (Ne.symm ab)]; assumption)
                     · (rw [hgrow.cell_far _ (by simp; omega) (Ne.symm ab)]; assumption)))
                (first
                  | (go_at_call 46; refine (ref03few _ _ (by assumption)).mono ?_; rintro e w' ⟨rfl, rfl⟩)
                  | (refine step_append_lies _ (by rfl) _ _ _ (by rfl) W2.heap.size 43 i0 _ 2 32 Tryz.underlying39 hi0 hz00 hz01 hz02 rfl (by omega) u9 k _ (by rfl) ((hown4.alloc _).drew)
                      ⟨wr.heap.size, 0, none⟩ 1 1 [.string (M3.few nm), .string (M3.few vl)] (by rfl) (by rfl) (World.news_of_block (cs := #[.string (M3.few nm), .string (M3.few vl)]) (t := 43) (fr := (0, 0)) (heap_alloc_new wr _)) (by simp [Value.oneCell'])
                      (by omega) (by unfold maxLen; omega) (by omega) (by simp; omega) (wr.heap.size + 1) (by simp) ?_; intro gg cap' w5 hown5 hgrow hat5 hlt5))
              have hb5 : Below W2.heap.size W2 w5 := ((hb4.alloc hz4 (.cells #[.string (M3.few nm), .string (M3.few vl)] 43)).drew).grown hgrow (by simp; omega) (fun g hg => (hown4.lt g hg).1)
              have hown6 : w5.ownsRow W2.heap.size 43 2 (.slice (some ⟨gg, 0, none⟩) (k + 1) cap') (k + 1) (cellsA ((x.attrs.take (k + 1)).map M3.fewA)) := by rw [htk.out]; exact hown5
              clear hown5 hgrow hat5
              go_wp2
              go_roundw
              case rel => exact ⟨k + 1, by omega, by omega, by go_num, hown6, hb5⟩
              case measure => simp [intOf]; omega
            · have htk : (x.attrs.take 5).map M3.fewA = (x.attrs.take k).map M3.fewA := by
                rcases Nat.lt_or_ge k 5 with h | h
                · rw [List.take_of_length_le (show x.attrs.length ≤ 5 by omega), List.take_of_length_le (show x.attrs.length ≤ k by omega)]
                · rw [show k = 5 by omega]
              have hlk : ((x.attrs.take k).map M3.fewA).length = k := by simp; omega
              rw [← htk] at hown4 hlk
              generalize hat' : (x.attrs.take 5).map M3.fewA = ats' at *
              replace hat' := Lib.hid hat'
              replace htk := Lib.hid htk
              replace hlk := Lib.hid hlk
              obtain ⟨a4, cap4, rfl⟩ := own_slice hown4
              have f2 := bx4.free 2
              have e0 := bx4.cell (i := 0) rfl
              have e1 := bx4.cell (i := 1) rfl
              have e3 := bx4.cell (i := 3) rfl
              have e4 := bx4.cell (i := 4) rfl
              have hbr4 : Below wo.heap.size wo wr := hbr3.trans (hb4.mono (by omega))
              obtain ⟨j0, hj0, hj00, hj01, hj02⟩ := info_parts infoN
              have hownW := own_keep hown.out (fun g hg => hbr4.block g (hown.out.lt g hg).2)
              have hlz := hbr4.size
              have hz5 : (wr.setCell ⟨wo.heap.size, 2, none⟩ (.slice a4 k cap4)).heap.size = wr.heap.size := by simp [World.setCell]
              have hb5 : Below wo.heap.size wo (wr.setCell ⟨wo.heap.size, 2, none⟩ (.slice a4 k cap4)) := hbr4.setCell (p := ⟨wo.heap.size, 2, none⟩) (Nat.le_refl _) _
              have hfar : ∀ b, b ≠ wo.heap.size → (wr.setCell ⟨wo.heap.size, 2, none⟩ (.slice a4 k cap4)).heap[b]? = wr.heap[b]? := fun b h => Below.heap_setCell _ _ _ _ (by simpa using h)
              have hownW2 := own_keep hownW (fun g hg => hfar g (by have := (hownW.lt g hg); have := (hown.out.lt g hg).2; omega))
              have hnews : ∀ j u, ([.int .i64 x.kind, .string (M3.few x.name), .slice a4 k cap4, .string (M3.few x.text), .slice a3 ks'.length cap3] : List Value)[j]? = some u →
                  ((wr.setCell ⟨wo.heap.size, 2, none⟩ (.slice a4 k cap4)).alloc (.cells #[.int .i64 x.kind, .string (M3.few x.name), .slice a4 k cap4, .string (M3.few x.text), .slice a3 ks'.length cap3] 41)).cell? ((⟨wr.heap.size, 0, none⟩ : Addr).add j) = some u := by
                rw [← hz5]
                exact World.news_of_block (cs := #[.int .i64 x.kind, .string (M3.few x.name), .slice a4 k cap4, .string (M3.few x.text), .slice a3 ks'.length cap3]) (t := 41) (fr := (0, 0)) (heap_alloc_new _ _)
              have hatN := own_keep hown4 (fun g hg => hfar g (by have := (hown4.lt g hg).1; omega))
              have hownK := own_keep (own_keep hown3.out (fun g hg => hb4.block g (hown3.out.lt g hg).2)) (fun g hg => hfar g (by have := (hown3.out.lt g hg).1; have := hsz1.out; omega))
              have hrepK : RepC (fun b => W1.heap.size ≤ b ∧ b < w2.heap.size ∧ (Value.slice a3 ks'.length cap3).ownBlock ≠ some b) (wr.setCell ⟨wo.heap.size, 2, none⟩ (.slice a4 k cap4)) zs2 ks' :=
                RepC.keep (fun b h => (hfar b (by have := h.1; have := hsz1.out; omega)).trans (hb4.block b (by have := h.2.1; omega))) _ _ hrep3.out
              have hrepA2 : RepC (fun b => w.heap.size ≤ b ∧ b < wo.heap.size ∧ u6.ownBlock ≠ some b) (wr.setCell ⟨wo.heap.size, 2, none⟩ (.slice a4 k cap4)) zs A := RepC.keep (fun b h => hb5.block b h.2.1) _ _ hrepA.out
              have hlA := hown.out.1
              have hownK3 := Lib.hid (fun g hg => (hown3.out.lt g hg).2)
              replace hrepK := Lib.hid hrepK
              replace hrepA2 := Lib.hid hrepA2
              replace hatN := Lib.hid hatN
              replace hownK := Lib.hid hownK
              replace hnews := Lib.hid hnews
              replace hfar := Lib.hid hfar
              replace hz5 := Lib.hid hz5
              clear hrepA hrep3 hown3 hown4 hownW
              have hgb6 : u6.ownBlock ≠ some wo.heap.size := fun e => by have := (hown.out.lt _ e).2; omega
              have htest : (decide (k < x.attrs.length) = false) ∨ (decide (k < x.attrs.length) = true ∧ decide ((k : Int) < 5) = false) := by
                by_cases h : k < x.attrs.length
                · exact Or.inr ⟨decide_eq_true (by omega), decide_eq_false (by omega)⟩
                · exact Or.inl (decide_eq_false (by omega))
              clear hk
              rcases htest with htest | ⟨htest, htest2⟩
              all_goals
                go_wp2_with (at_builtin; refine wpList_append_lies _ rfl _ _ 25 rfl w.heap.size 41 j0 _ 5 88 Tryz.underlying25 hj0 hj00 hj01 hj02 rfl (by omega) u6 A.length zs rfl (hownW2.alloc _) ⟨wr.heap.size, 0, none⟩ 1 1 _ rfl rfl hnews.out (by simp [Value.oneCell']) (by omega) (by unfold maxLen; omega) (by omega) (by simp; omega) _ rfl ?_; intro gg cap' w5 hown5 hgrow hat5 hlt5)
                have hb6 : Below w.heap.size w w5 := (((hb.trans (hb5.mono hz)).alloc (by have := hz5.out; omega) (.cells #[.int .i64 x.kind, .string (M3.few x.name), .slice a4 _ cap4, .string (M3.few x.text), .slice a3 ks'.length cap3] 41))).grown hgrow (by simp; have := hz5.out; omega) (fun g hg => (hown.out.lt g hg).1)
                have hmade : Made w5 w.heap.size (.slice (some ⟨gg, 0, none⟩) (A.length + 1) cap') (A ++ [.mk x.kind (M3.few x.name) ats' (M3.few x.text) ks']) := by
                  refine Made.snoc (u := u6) (va := .slice a4 _ cap4) (vk := .slice a3 ks'.length cap3) (SA := fun b => w.heap.size ≤ b ∧ b < wo.heap.size ∧ u6.ownBlock ≠ some b) (SX := fun b => W1.heap.size ≤ b ∧ b < wr.heap.size) rfl hown5 hgrow ?_ ?_ ?_ ?_ ?_
                  · rcases hat5 with h | h
                    · exact Or.inl h
                    · exact Or.inr (by rw [h]; exact Nat.le_refl _)
                  · exact RepC.keep (fun b h => Below.heap_alloc _ _ _ (by have := hz5.out; have := h.2.1; omega)) _ _ hrepA2.out
                  · exact fun b h => ⟨h.1, by simp; have := hz5.out; have := h.2.1; omega, h.2.2⟩
                  · refine RepV.keep (w := wr.setCell ⟨wo.heap.size, 2, none⟩ (.slice a4 _ cap4)) ⟨?_, zs2, ?_, ?_⟩ (fun b h => Below.heap_alloc _ _ _ (by have := hz5.out; have := h.2; omega))
                    · have h1 := Row.own hatN.out (S := fun b => W1.heap.size ≤ b ∧ b < wr.heap.size) (fun g hg => by have := hatN.out.lt g hg; have := hz5.out; omega)
                      simpa only [Nd.attrs, hlk.out] using h1
                    · exact Row.own hownK.out (fun g hg => by have h1 := hownK.out.lt g hg; have h2 := hz5.out; have h3 := hownK3.out g hg; omega)
                    · exact RepC.mono (fun b h => ⟨h.1, by have := h.2.1; omega⟩) _ _ hrepK.out
                  · exact fun b h => ⟨by have := h.1; have := hsz1.out; omega, by simp; have := hz5.out; have := h.2; omega, fun e => by have := (hown.out.lt b e).2; have := h.1; have := hsz1.out; omega⟩
                clear hown5 hgrow hat5
                replace hmade := Lib.hid hmade
                go_roundw
                case rel =>
                  refine ⟨i + 1, m2, A ++ [.mk x.kind (M3.few x.name) ats' (M3.few x.text) ks'], by omega, by go_num, rfl, by simp; omega, hmade.out, hb6, ?_⟩
                  show _ ∧ _
                  rw [hc.1, hc.2]
                  simp
                case measure => simp [intOf]; omega
        · obtain rfl : mi = 0 := by omega
          rw [M3.cut_zero] at hc
          have hc1 := Lib.hid (show (M3.cut l m).1 = A by rw [hc.1]; simp)
          have hc2 := Lib.hid hc.2
          clear hc hmi
          replace hown := Lib.hid hown
          replace hrepA := Lib.hid hrepA
          go_wp2
          go_ret2
          exact ⟨u6, by rw [hc2.out]; rfl, by rw [hc1.out]; exact ⟨zs, hown.out, hrepA.out⟩, hb⟩
      · obtain rfl : i = l.length := by omega
        rw [List.drop_length, M3.cut_nil] at hc
        have hc1 := Lib.hid (show (M3.cut l m).1 = A by rw [hc.1]; simp)
        have hc2 := Lib.hid hc.2
        clear hc
        replace hown := Lib.hid hown
        replace hrepA := Lib.hid hrepA
        go_wp2
        go_ret2
        exact ⟨u6, by rw [hc2.out]; rfl, by rw [hc1.out]; exact ⟨zs, hown.out, hrepA.out⟩, hb⟩
def fewN (l : List Nd) : List Nd := (M3.cut l 40).1
def MadePost (l : List Nd) (w : World) (e : Ending) (w' : World) : Prop := ∃ v', e = .returned v' ∧ Made w' w.heap.size v' l ∧ Below w.heap.size w w'
set_option maxHeartbeats 1000000 in
theorem ref03Few (S : Nat → Prop) (v : Value) (l : List Nd) (w : World) (hS : ∀ b, S b → b < w.heap.size) (hr : RepN S w v l) (hsz : SzN l) :
    Calls Tryz.prog 16 #[v] w (MadePost (fewN l) w) := by
  have h := Lib.hid (fun W h1 h2 => ref03Cut 40 S v l W h1 h2 hsz (by omega))
  obtain ⟨a, cap, rfl⟩ := hr.slice
  go_enter Tryz.func16, Tryz.ntmps16
  go_wp2_with (fail)
  refine (h.out w hS hr).mono ?_
  rintro e w1 ⟨v1, rfl, hm1, hb1⟩
  replace hm1 := Lib.hid hm1
  go_wp2
  go_ret
  exact ⟨v1, rfl, hm1.out, hb1⟩
end Go.Proofs.YteefodibpjgicaaGreat

namespace Go.Proofs.YteefodibpjgicaaGreat
open Go.RowKit Go.ChangeShapes Go.WideShapes
theorem exists_list {α : Type} {p : Nat → α → Prop} (n : Nat) (h : ∀ i, i < n → ∃ a, p i a) : ∃ l : List α, l.length = n ∧ ∀ i (hi : i < l.length), p i l[i] := by
  induction n with
  | zero => exact ⟨[], rfl, fun i hi => by simp at hi⟩
  | succ n ih =>
    obtain ⟨l, hl, hp⟩ := ih (fun i hi => h i (by omega))
    obtain ⟨a, ha⟩ := h n (by omega)
    refine ⟨l ++ [a], by simp [hl], fun i hi => ?_⟩
    rw [List.length_append, List.length_cons, List.length_nil] at hi
    by_cases hin : i < l.length
    · rw [List.getElem_append_left hin]; exact hp i hin
    · rw [List.getElem_append_right (by omega)]
      simp only [List.getElem_singleton]
      rw [show i = n by omega]; exact ha
theorem flat_get {α : Type} (f : α → List Value) (k : Nat) (hf : ∀ x, (f x).length = k) (_ : 0 < k) : ∀ (L : List α) (j : Nat) (u : Value), (L.flatMap f)[j]? = some u → ∃ (i r : Nat) (h : i < L.length), j = i * k + r ∧ r < k ∧ (f L[i])[r]? = some u := by
  intro L
  induction L with
  | nil => intro j u h; simp at h
  | cons x r ih =>
    intro j u h
    rw [List.flatMap_cons] at h
    by_cases hj : j < k
    · rw [List.getElem?_append_left (by rw [hf]; exact hj)] at h
      exact ⟨0, j, by simp, by simp, hj, h⟩
    · rw [List.getElem?_append_right (by rw [hf]; omega), hf] at h
      obtain ⟨i, q, hi, h1, h2, h3⟩ := ih _ _ h
      refine ⟨i + 1, q, by simpa using hi, ?_, h2, by simpa using h3⟩
      rw [Nat.add_mul]; omega
theorem flat_len {α : Type} (f : α → List Value) (k : Nat) (hf : ∀ x, (f x).length = k) (L : List α) : (L.flatMap f).length = L.length * k := by
  induction L with
  | nil => simp
  | cons x r ih => rw [List.flatMap_cons, List.length_append, ih, hf, List.length_cons, Nat.add_mul]; omega
theorem cells_cell {w : World} {base : Nat} {a : Addr} {n : Nat} {cs : List Value} (h : w.cells? base a n = some cs) (hn : 0 < n) : ∃ b off, a = ⟨b, off, none⟩ ∧ b < w.heap.size ∧ ∀ i u, cs[i]? = some u → w.cell? ⟨b, off + i, none⟩ = some u := by
  obtain ⟨_, hl, hc⟩ := World.cells?_some h
  have h0 := hc 0 hn
  rw [List.getElem?_eq_getElem (by omega)] at h0
  obtain ⟨b, off, spot⟩ := a
  have hspot : spot = none := by simpa [Addr.add] using World.cell?_spot h0
  subst hspot
  refine ⟨b, off, rfl, ?_, fun i u hu => ?_⟩
  · have := World.block_lt_of_cell? w _ h0
    rwa [add_plain'] at this
  · have h1 := hc i (by have := (List.getElem?_eq_some_iff.1 hu).1; omega)
    rw [add_plain'] at h1
    rw [h1, hu]
section
variable {H : Type} {enc : TypeId × Value → H} {w : World} {base : Nat} {spare : Nat → Bool} {held : Bool}
theorem open_rows {t e : TypeId} {k fuel : Nat} {cs : List Value} {x : DataW H × List MemPlace} (ht : Tryz.prog.underlying t = some (.slice e)) (hC : Tryz.prog.cellsOf e = k) (hk : 0 < k) (h : DataW.trod enc Tryz.prog w base spare held fuel t cs = some x)
    {α : Type} (f : α → List Value) (hf : ∀ x, (f x).length = k) (q : α → Prop) (hq : ∀ n cs' y, n < fuel → cs'.length = k → DataW.trod enc Tryz.prog w base spare held n e cs' = some y → ∃ b : α, cs' = f b ∧ q b) :
    ∃ (v : Value) (L : List α), cs = [v] ∧ Row (fun b => b < w.heap.size) w k v L.length (L.flatMap f) ∧ ∀ b ∈ L, q b := by
  rcases DataW.trod_slice ht h with ⟨rfl, _⟩ | ⟨a, len, cap, elems, rest, n, hn, rfl, _, _, hl, hm, hlen, hel, _, _⟩
  · exact ⟨_, [], rfl, Row.nil _ _ _, fun b hb => by cases hb⟩
  · have key : ∀ i, i < len → ∃ b : α, q b ∧ w.cells? base (a.add (i * k)) k = some (f b) := by
      intro i hi
      have h1 := hel i hi
      rw [List.getElem?_eq_getElem (by omega), hC] at h1
      obtain ⟨cs', h2, h3⟩ := Option.bind_eq_some_iff.1 h1
      obtain ⟨b, rfl, hb⟩ := hq n cs' _ (by omega) (by have := (World.cells?_some h2).2.1; exact this) h3
      exact ⟨b, hb, h2⟩
    obtain ⟨L, hL, hp⟩ := exists_list len key
    unfold maxLen at hm
    refine ⟨_, L, rfl, ⟨flat_len f k hf L, some a, cap, by rw [hL], by omega, by omega, (fun h => by cases h), fun hpos => ?_⟩, fun b hb => ?_⟩
    · have h0 := (hp 0 hpos).2
      rw [Nat.zero_mul] at h0
      have ha0 : a.add 0 = a := by unfold Addr.add; simp
      rw [ha0] at h0
      obtain ⟨b, off, rfl, hbl, _⟩ := cells_cell h0 hk
      refine ⟨b, off, rfl, hbl, fun j u hu => ?_⟩
      obtain ⟨i, r, hi, rfl, hr, h3⟩ := flat_get f k hf hk L j u hu
      have h4 := (hp i hi).2
      rw [add_plain'] at h4
      obtain ⟨b', off', h5, _, h6⟩ := cells_cell h4 hk
      cases h5
      rw [← Nat.add_assoc]
      exact h6 r u h3
    · obtain ⟨i, hi, rfl⟩ := List.mem_iff_getElem.1 hb
      exact (hp i hi).1
theorem cell1 (t : TypeId) (h : t = 9 ∨ t = 3 ∨ t = 39 ∨ t = 25) : Tryz.prog.cellsOf t = 1 := by
  rcases h with rfl | rfl | rfl | rfl <;> kernel_rfl
theorem open_att {n : Nat} {cs : List Value} {y : DataW H × List MemPlace} (hl : cs.length = 2) (h : DataW.trod enc Tryz.prog w base spare held n 43 cs = some y) :
    ∃ b : Att, cs = [.string b.name, .string b.value] ∧ b.name.size ≤ 9223372036854775807 ∧ b.value.size ≤ 9223372036854775807 := by
  match cs, hl with
  | [c0, c1], _ =>
    obtain ⟨xs, m, _, _, _, hxs, hf⟩ := DataW.trod_struct Tryz.underlying43 h
    have h0 := hf 0 _ rfl
    have h1 := hf 1 _ rfl
    change DataW.trod enc Tryz.prog w base spare held m 9 ((([c0, c1] : List Value).drop 0).take (Tryz.prog.cellsOf 9)) = xs[0]? at h0
    change DataW.trod enc Tryz.prog w base spare held m 9 ((([c0, c1] : List Value).drop 1).take (Tryz.prog.cellsOf 9)) = xs[1]? at h1
    rw [cell1 9 (Or.inl rfl)] at h0 h1
    simp only [List.drop_zero, List.take_succ_cons, List.take_zero, List.drop_succ_cons] at h0 h1
    rw [List.getElem?_eq_getElem (by rw [hxs]; decide)] at h0
    rw [List.getElem?_eq_getElem (by rw [hxs]; decide)] at h1
    obtain ⟨s0, e0, _, z0⟩ := DataW.trod_string Tryz.underlying9 h0
    obtain ⟨s1, e1, _, z1⟩ := DataW.trod_string Tryz.underlying9 h1
    unfold maxLen at z0 z1
    simp only [List.cons.injEq, and_true] at e0 e1
    exact ⟨⟨s0, s1⟩, by rw [e0, e1], by show s0.size ≤ _; omega, by show s1.size ≤ _; omega⟩
theorem open_attrs {fuel : Nat} {cs : List Value} {x : DataW H × List MemPlace} (h : DataW.trod enc Tryz.prog w base spare held fuel 39 cs = some x) :
    ∃ (v : Value) (L : List Att), cs = [v] ∧ Row (fun b => b < w.heap.size) w 2 v L.length (cellsA L) ∧ ∀ b ∈ L, b.name.size ≤ 9223372036854775807 ∧ b.value.size ≤ 9223372036854775807 :=
  open_rows Tryz.underlying39 (by kernel_rfl) (by decide) h (fun a : Att => [.string a.name, .string a.value]) (fun _ => rfl) (fun b : Att => b.name.size ≤ 9223372036854775807 ∧ b.value.size ≤ 9223372036854775807) (fun n cs' y _ hl h => open_att hl h)
structure NV where
  x : Nd
  va : Value
  vk : Value
theorem open_node {n : Nat} {cs : List Value} {y : DataW H × List MemPlace} (hl : cs.length = 5) (h : DataW.trod enc Tryz.prog w base spare held n 41 cs = some y)
    (ih : ∀ m cs' x, m < n → DataW.trod enc Tryz.prog w base spare held m 25 cs' = some x → ∃ (v : Value) (l : List Nd), cs' = [v] ∧ RepN (fun b => b < w.heap.size) w v l ∧ SzN l) :
    ∃ b : NV, cs = b.x.cells b.va b.vk ∧ RepV (fun b => b < w.heap.size) w b.x b.va b.vk ∧ Sz1 b.x ∧ SzN b.x.kids := by
  match cs, hl with
  | [c0, c1, c2, c3, c4], _ =>
    obtain ⟨xs, m, hm, _, _, hxs, hf⟩ := DataW.trod_struct Tryz.underlying41 h
    have h0 := hf 0 _ rfl
    have h1 := hf 1 _ rfl
    have h2 := hf 2 _ rfl
    have h3 := hf 3 _ rfl
    have h4 := hf 4 _ rfl
    change DataW.trod enc Tryz.prog w base spare held m 3 ((([c0, c1, c2, c3, c4] : List Value).drop 0).take (Tryz.prog.cellsOf 3)) = xs[0]? at h0
    change DataW.trod enc Tryz.prog w base spare held m 9 ((([c0, c1, c2, c3, c4] : List Value).drop 1).take (Tryz.prog.cellsOf 9)) = xs[1]? at h1
    change DataW.trod enc Tryz.prog w base spare held m 39 ((([c0, c1, c2, c3, c4] : List Value).drop 2).take (Tryz.prog.cellsOf 39)) = xs[2]? at h2
    change DataW.trod enc Tryz.prog w base spare held m 9 ((([c0, c1, c2, c3, c4] : List Value).drop 3).take (Tryz.prog.cellsOf 9)) = xs[3]? at h3
    change DataW.trod enc Tryz.prog w base spare held m 25 ((([c0, c1, c2, c3, c4] : List Value).drop 4).take (Tryz.prog.cellsOf 25)) = xs[4]? at h4
    rw [cell1 3 (Or.inr (Or.inl rfl))] at h0
    rw [cell1 9 (Or.inl rfl)] at h1 h3
    rw [cell1 39 (Or.inr (Or.inr (Or.inl rfl)))] at h2
    rw [cell1 25 (Or.inr (Or.inr (Or.inr rfl)))] at h4
    simp only [List.drop_zero, List.take_succ_cons, List.take_zero, List.drop_succ_cons] at h0 h1 h2 h3 h4
    rw [List.getElem?_eq_getElem (by rw [hxs]; decide)] at h0
    rw [List.getElem?_eq_getElem (by rw [hxs]; decide)] at h1
    rw [List.getElem?_eq_getElem (by rw [hxs]; decide)] at h2
    rw [List.getElem?_eq_getElem (by rw [hxs]; decide)] at h3
    rw [List.getElem?_eq_getElem (by rw [hxs]; decide)] at h4
    obtain ⟨k, e0, _, _⟩ := DataW.trod_int Tryz.underlying3 h0
    obtain ⟨s1, e1, _, z1⟩ := DataW.trod_string Tryz.underlying9 h1
    obtain ⟨va, L, e2, r2, z2⟩ := open_attrs h2
    obtain ⟨s3, e3, _, z3⟩ := DataW.trod_string Tryz.underlying9 h3
    obtain ⟨vk, l, e4, r4, z4⟩ := ih m _ _ (by omega) h4
    unfold maxLen at z1 z3
    simp only [List.cons.injEq, and_true] at e0 e1 e2 e3 e4
    exact ⟨⟨.mk k s1 L s3 l, va, vk⟩, by rw [e0, e1, e2, e3, e4]; rfl, ⟨r2, r4⟩, ⟨by show s1.size ≤ _; omega, by show s3.size ≤ _; omega, z2⟩, z4⟩
theorem open_nodes (fuel : Nat) : ∀ (cs : List Value) (x : DataW H × List MemPlace), DataW.trod enc Tryz.prog w base spare held fuel 25 cs = some x →
    ∃ (v : Value) (l : List Nd), cs = [v] ∧ RepN (fun b => b < w.heap.size) w v l ∧ SzN l := by
  induction fuel using Nat.strongRecOn with
  | ind fuel ih =>
    intro cs x h
    obtain ⟨v, L, hv, hr, hq⟩ := open_rows Tryz.underlying25 (by kernel_rfl) (by decide) h (fun b : NV => b.x.cells b.va b.vk) (fun _ => rfl) (fun b => RepV (fun b => b < w.heap.size) w b.x b.va b.vk ∧ Sz1 b.x ∧ SzN b.x.kids)
      (fun n cs' y hn hl h => open_node hl h (fun m cs'' x hm h => ih m (by omega) cs'' x h))
    refine ⟨v, L.map NV.x, hv, ⟨_, by simpa using hr, ?_⟩, ?_⟩
    · clear hr hv h ih
      induction L with
      | nil => exact RepC.nil _ _
      | cons b r ih =>
        rw [List.flatMap_cons, List.map_cons]
        exact RepC.append (m := r.map NV.x) (ih (fun c hc => hq c (by simp [hc]))) [b.x] _ (RepC.single (hq b (by simp)).1)
    · clear hr hv h ih
      induction L with
      | nil => show SzN []; rw [SzN]; trivial
      | cons b r ih =>
        rw [List.map_cons]
        exact szN_cons.2 ⟨(hq b (by simp)).2.1, (hq b (by simp)).2.2, ih (fun c hc => hq c (by simp [hc]))⟩
end
end Go.Proofs.YteefodibpjgicaaGreat

namespace Go.Proofs.YteefodibpjgicaaGreat
open Go.RowKit
def OwnC (w : World) : List Value → List Nd → List Nat → Prop
  | xs, [], F => xs = [] ∧ F = []
  | xs, .mk k n ats t ks :: r, F => ∃ va vk zs ys F1 F2, xs = .int .i64 k :: .string n :: va :: .string t :: vk :: ys ∧ w.ownsRow 0 43 2 va ats.length (cellsA ats) ∧ w.ownsRow 0 41 5 vk ks.length zs ∧
      F = (va.ownBlock.toList ++ (vk.ownBlock.toList ++ F1)) ++ F2 ∧ OwnC w zs ks F1 ∧ OwnC w ys r F2
termination_by _ l _ => SizeOf.sizeOf l
theorem OwnC.cons_iff {w : World} {xs : List Value} {x : Nd} {r : List Nd} {F : List Nat} :
    OwnC w xs (x :: r) F ↔ ∃ va vk zs ys F1 F2, xs = x.cells va vk ++ ys ∧ w.ownsRow 0 43 2 va x.attrs.length (cellsA x.attrs) ∧ w.ownsRow 0 41 5 vk x.kids.length zs ∧
      F = (va.ownBlock.toList ++ (vk.ownBlock.toList ++ F1)) ++ F2 ∧ OwnC w zs x.kids F1 ∧ OwnC w ys r F2 := by cases x; rw [OwnC]; rfl
theorem OwnC.nil (w : World) : OwnC w [] [] [] := by rw [OwnC]; exact ⟨rfl, rfl⟩
theorem OwnC.keep {w w' : World} (l : List Nd) : ∀ (xs : List Value) (F : List Nat), (∀ b ∈ F, w'.heap[b]? = w.heap[b]?) → OwnC w xs l F → OwnC w' xs l F := by
  induction l using Nd.ind with
  | h0 => intro xs F _ h; rw [OwnC] at h ⊢; exact h
  | h1 k n ats t ks r ih1 ih2 =>
    intro xs F hk h
    obtain ⟨va, vk, zs, ys, F1, F2, h1, h2, h3, rfl, h5, h6⟩ := OwnC.cons_iff.1 h
    refine OwnC.cons_iff.2 ⟨va, vk, zs, ys, F1, F2, h1, own_keep h2 (fun g hg => hk g (by simp [hg])), own_keep h3 (fun g hg => hk g (by simp [hg])), rfl, ih1 _ _ (fun b hb => hk b (by simp [hb])) h5, ih2 _ _ (fun b hb => hk b (by simp [hb])) h6⟩
theorem OwnC.append {w : World} {m : List Nd} {ys : List Value} {G : List Nat} (h : OwnC w ys m G) (l : List Nd) : ∀ (xs : List Value) (F : List Nat), OwnC w xs l F → OwnC w (xs ++ ys) (l ++ m) (F ++ G) := by
  induction l using Nd.ind with
  | h0 => intro xs F h'; rw [OwnC] at h'; obtain ⟨rfl, rfl⟩ := h'; exact h
  | h1 k n ats t ks r _ ih2 =>
    intro xs F h'
    obtain ⟨va, vk, zs, ys', F1, F2, rfl, h2, h3, rfl, h5, h6⟩ := OwnC.cons_iff.1 h'
    exact OwnC.cons_iff.2 ⟨va, vk, zs, ys' ++ ys, F1, F2 ++ G, by rw [List.append_assoc], h2, h3, by simp, h5, ih2 _ _ h6⟩
theorem OwnC.rep {w : World} (l : List Nd) : ∀ (xs : List Value) (F : List Nat), OwnC w xs l F → RepC (· ∈ F) w xs l := by
  induction l using Nd.ind with
  | h0 => intro xs F h; rw [OwnC] at h; rw [RepC]; exact h.1
  | h1 k n ats t ks r ih1 ih2 =>
    intro xs F h
    obtain ⟨va, vk, zs, ys, F1, F2, rfl, h2, h3, rfl, h5, h6⟩ := OwnC.cons_iff.1 h
    refine RepC.cons_iff.2 ⟨va, vk, ys, rfl, Row.own h2 (fun g hg => by simp [hg]), ⟨zs, Row.own h3 (fun g hg => by simp [hg]), RepC.mono (fun b hb => by simp [hb]) _ _ (ih1 _ _ h5)⟩, RepC.mono (fun b hb => by simp [hb]) _ _ (ih2 _ _ h6)⟩
def Span (lo hi : Nat) (F : List Nat) : Prop := F.Nodup ∧ ∀ b ∈ F, lo ≤ b ∧ b < hi
theorem Span.nil (lo hi : Nat) : Span lo hi [] := ⟨List.nodup_nil, fun b h => by cases h⟩
theorem Span.append {lo mid hi : Nat} {F G : List Nat} (hF : Span lo mid F) (hG : Span mid hi G) (h1 : lo ≤ mid) (h2 : mid ≤ hi) : Span lo hi (F ++ G) := by
  refine ⟨List.nodup_append.2 ⟨hF.1, hG.1, fun a ha b hb e => by have h3 := (hF.2 a ha).2; have h4 := (hG.2 b hb).1; omega⟩, fun b hb => ?_⟩
  rcases List.mem_append.1 hb with hb | hb
  · have := hF.2 b hb; omega
  · have := hG.2 b hb; omega
theorem Span.mono {lo lo' hi hi' : Nat} {F : List Nat} (hF : Span lo hi F) (h1 : lo' ≤ lo) (h2 : hi ≤ hi') : Span lo' hi' F := ⟨hF.1, fun b hb => by have := hF.2 b hb; omega⟩
theorem Span.own {w : World} {B : Nat} {e : TypeId} {k n : Nat} {v : Value} {xs : List Value} (h : w.ownsRow B e k v n xs) : Span B w.heap.size v.ownBlock.toList := by
  refine ⟨by cases v.ownBlock <;> simp, fun b hb => ?_⟩
  have : v.ownBlock = some b := by cases hv : v.ownBlock <;> simp [hv] at hb ⊢; exact hb.symm
  exact h.lt b this
def Fresh (w' : World) (B : Nat) (v : Value) (l : List Nd) : Prop := ∃ zs F, w'.ownsRow B 41 5 v l.length zs ∧ OwnC w' zs l F ∧ Span B w'.heap.size (v.ownBlock.toList ++ F)
theorem Fresh.rep {w' : World} {B : Nat} {v : Value} {l : List Nd} (h : Fresh w' B v l) : RepN (fun b => B ≤ b ∧ b < w'.heap.size) w' v l := by
  obtain ⟨zs, F, h1, h2, h3⟩ := h
  exact ⟨zs, Row.own h1 (fun g hg => h1.lt g hg), RepC.mono (fun b hb => h3.2 b (by simp [hb])) _ _ (OwnC.rep _ _ _ h2)⟩
def FreshPost (l : List Nd) (w : World) (e : Ending) (w' : World) : Prop := ∃ v', e = .returned v' ∧ Fresh w' w.heap.size v' l ∧ Below w.heap.size w w'
def FreshV (x : Nd) (w : World) (e : Ending) (w' : World) : Prop := ∃ va vk zs F, e = .returned (x.val va vk) ∧ w'.ownsRow w.heap.size 43 2 va x.attrs.length (cellsA x.attrs) ∧ w'.ownsRow w.heap.size 41 5 vk x.kids.length zs ∧ OwnC w' zs x.kids F ∧ Span w.heap.size w'.heap.size (va.ownBlock.toList ++ (vk.ownBlock.toList ++ F)) ∧ Below w.heap.size w w'
end Go.Proofs.YteefodibpjgicaaGreat

namespace Go.Proofs.YteefodibpjgicaaGreat
open Go.RowKit
theorem wpList_appRow {P : Program} {ops : Array Oper} {rest : List Oper} {o : Oper} {a : Act} {Q : Exit → Act → World → Prop} (w1 : World) (hgd : o.guard = none) (s y : Operand) (t e : TypeId)
    (ho : o.op = .call { callee := .builtin .append, args := #[s, y], argTypes := #[t, t] }) (base k : Nat) {z : Value} {bytes : Nat} (ht : P.underlying t = some (.slice e))
    (hinfo : (P.info? e).map (fun i => (i.zero, i.size, i.bytes)) = some (some z, k, bytes)) (hz : z.cells.size = k) (hk : 0 < k)
    (v : Value) (n : Nat) (xs : List Value) (hs : a.eval s = v) (hown : w1.ownsRow base e k v n xs) (S : Nat → Prop) (yv : Value) (m : Nat) (ys : List Value) (hy : a.eval y = yv) (hx : Row S w1 k yv m ys) (h1 : ∀ u ∈ ys, u.oneCell' = true)
    (h63 : n + m ≤ 9223372036854775807) (hbytes : (n + m) * bytes ≤ 140737488355328) (hbase : base ≤ w1.heap.size)
    (h : ∀ v' w2, w2.ownsRow base e k v' (n + m) (xs ++ ys) → w1.grownBy w2 v.ownBlock → wpList P ops Q rest (a.put o.dst v') w2) : wpList P ops Q (o :: rest) a w1 := by
  obtain ⟨i, hi, hz0, hz1, hz2⟩ := info_parts hinfo
  obtain ⟨h0, ad, cap, rfl, h2, h3, h4, h5⟩ := hx
  cases ad with
  | none =>
    have h6 := h4 rfl
    obtain rfl : m = 0 := by omega
    obtain rfl : ys = [] := List.eq_nil_of_length_eq_zero (by simpa using h0)
    subst h6
    refine wpList_append_own_none hgd s y t ho base e i k ht hi v n xs hs hown hy ?_
    exact h v w1 (by simpa using hown) ⟨rfl, rfl, rfl, Nat.le_refl _, fun _ _ _ => rfl⟩
  | some ad =>
    refine wpList_append_own _ hgd s y t ho base e i z k bytes ht hi hz0 hz1 hz2 hz hk v n xs hs hown ad m cap ys hy h0 ?_ h1 (by unfold maxLen; omega) hbytes hbase ?_
    · intro j u hj
      have hm : 0 < m := by
        rcases Nat.eq_zero_or_pos m with h | h
        · subst h
          rw [Nat.zero_mul] at h0
          rw [List.eq_nil_of_length_eq_zero h0] at hj
          simp at hj
        · exact h
      obtain ⟨b, off, h6, _, h7⟩ := h5 hm
      cases h6
      rw [add_plain']
      exact h7 j u hj
    · intro v' w2 h8 h9 _
      exact h v' w2 h8 h9
theorem below_none {W w1 : World} {v : Value} (h : W.grownBy w1 v.ownBlock) (hv : v.ownBlock = none := by rfl) : Below W.heap.size W w1 := by
  rw [hv] at h
  exact ⟨h.os, h.tape, h.output, h.size, fun k hk => h.block k hk (by simp)⟩
set_option maxHeartbeats 2000000 in
set_option maxRecDepth 100000 in
theorem domClone1 (S : Nat → Prop) (x : Nd) (va vk : Value) (w : World) (hS : ∀ b, S b → b < w.heap.size) (hx : RepV S w x va vk) (hw : x.attrs.length ≤ 1000000)
    (ih : ∀ W : World, (∀ b, S b → b < W.heap.size) → RepN S W vk x.kids → Calls Tryz.prog 211 #[vk] W (FreshPost x.kids W)) :
    Calls Tryz.prog 218 #[x.val va vk] w (FreshV x w) := by
  obtain ⟨hat, hkd⟩ := hx
  obtain ⟨a1, cap1, rfl⟩ := hat.slice
  obtain ⟨a2, cap2, rfl⟩ := hkd.slice
  replace ih := Lib.hid ih
  go_enter Tryz.func218, Tryz.ntmps218
  have b0 := (Box.new w 41 (x.cells (.slice a1 x.attrs.length cap1) (.slice a2 x.kids.length cap2))).alloc (.cells #[.int .i64 0, .string ⟨#[]⟩, .slice none 0 0, .string ⟨#[]⟩, .slice none 0 0] 41)
  have b1 := Box.new (w.alloc (.cells (x.cells (.slice a1 x.attrs.length cap1) (.slice a2 x.kids.length cap2)).toArray 41)) 41 [.int .i64 0, .string ⟨#[]⟩, .slice none 0 0, .string ⟨#[]⟩, .slice none 0 0]
  have hB0 : Below w.heap.size w ((w.alloc (.cells (x.cells (.slice a1 x.attrs.length cap1) (.slice a2 x.kids.length cap2)).toArray 41)).alloc (.cells #[.int .i64 0, .string ⟨#[]⟩, .slice none 0 0, .string ⟨#[]⟩, .slice none 0 0] 41)) := ((Below.refl _ w).alloc (Nat.le_refl _) _).alloc (by simp) _
  have hs0 : ((w.alloc (.cells (x.cells (.slice a1 x.attrs.length cap1) (.slice a2 x.kids.length cap2)).toArray 41)).alloc (.cells #[.int .i64 0, .string ⟨#[]⟩, .slice none 0 0, .string ⟨#[]⟩, .slice none 0 0] 41)).heap.size = w.heap.size + 2 := by simp
  have hat0 := hat.below hS hB0
  simp only [World.size_alloc] at b1
  go_wp2_with (at_builtin; refine wpList_appRow _ rfl _ _ 39 43 rfl (w.heap.size + 2) 2 Tryz.underlying39 infoA rfl (by omega) _ 0 [] rfl (World.ownsRow_nil _ _ _ _) S _ x.attrs.length (cellsA x.attrs) rfl hat0 (cellsA_one _) (by omega) (by omega) (by simp) ?_; intro v1 w1 hown1 hgrow1; obtain ⟨a3, cap3, rfl⟩ := own_slice hown1; have hb1 := below_none hgrow1; rw [hs0] at hb1; have b2 := b0.below hb1 (by omega); have b3 := b1.below hb1 (by omega); have c2 := b2.cell (i := 2) rfl; have c4 := b2.cell (i := 4) rfl; have f2 := b2.free 2)
  have b4 := b2.set 2 (.slice a3 x.attrs.length cap3)
  have b5 := b3.far (p := ⟨w.heap.size, 2, none⟩) (by simp) (.slice a3 x.attrs.length cap3)
  have hz1 : (w1.setCell ⟨w.heap.size, 2, none⟩ (.slice a3 x.attrs.length cap3)).heap.size = w1.heap.size := by simp [World.setCell]
  have hB1 : Below w.heap.size w (w1.setCell ⟨w.heap.size, 2, none⟩ (.slice a3 x.attrs.length cap3)) := (hB0.trans (hb1.mono (by omega))).setCell (p := ⟨w.heap.size, 2, none⟩) (Nat.le_refl _) _
  have hown2 := own_keep hown1 (w' := w1.setCell ⟨w.heap.size, 2, none⟩ (.slice a3 x.attrs.length cap3)) (fun g hg => Below.heap_setCell _ _ _ _ (by have := (hown1.lt g hg).1; simp; omega))
  have hsz1 := hb1.size
  simp only [List.nil_append, Nat.zero_add] at hown2
  simp only [List.set_cons_succ, List.set_cons_zero] at b4
  obtain ⟨W1, hW1⟩ : ∃ W1, w1.setCell ⟨w.heap.size, 2, none⟩ (.slice a3 x.attrs.length cap3) = W1 := ⟨_, rfl⟩
  rw [hW1] at b4 b5 hz1 hB1 hown2 ⊢
  clear hW1 b0 b1 b2 b3 c2 c4 f2 hown1 hgrow1 hat0
  refine (ih.out W1 (fun b h => by have := hS b h; have := hB1.size; omega) (hkd.below hS hB1)).mono ?_
  rintro e w2 ⟨v2, rfl, ⟨zs, F, hown3, hown4, hspan⟩, hb2⟩
  obtain ⟨a4, cap4, rfl⟩ := own_slice hown3
  have hz2 := hb2.size
  have d0 := b4.below hb2 b4.lt
  have e0 := b5.below hb2 b5.lt
  have q0 := d0.cell (i := 0) rfl
  have q1 := d0.cell (i := 1) rfl
  have q2 := d0.cell (i := 2) rfl
  have q3 := d0.cell (i := 3) rfl
  have q4 := d0.cell (i := 4) rfl
  have p4 := d0.free 4
  have r0 := e0.cell (i := 0) rfl
  have r1 := e0.cell (i := 1) rfl
  have r2 := e0.cell (i := 2) rfl
  have r3 := e0.cell (i := 3) rfl
  have r4 := e0.cell (i := 4) rfl
  have s0 := e0.free 0
  have s1 := e0.free 1
  have s2 := e0.free 2
  have s3 := e0.free 3
  have s4 := e0.free 4
  replace hown3 := Lib.hid hown3
  replace hown4 := Lib.hid hown4
  replace hspan := Lib.hid hspan
  replace hown2 := Lib.hid hown2
  clear ih
  go_wp2
  have hfar : ∀ b, w.heap.size + 2 ≤ b → ((((((w2.setCell ⟨w.heap.size, 4, none⟩ (.slice a4 x.kids.length cap4)).setCell ⟨w.heap.size + 1, 0, none⟩ (.int .i64 x.kind)).setCell ⟨w.heap.size + 1, 1, none⟩ (.string x.name)).setCell ⟨w.heap.size + 1, 2, none⟩ (.slice a3 x.attrs.length cap3)).setCell ⟨w.heap.size + 1, 3, none⟩ (.string x.text)).setCell ⟨w.heap.size + 1, 4, none⟩ (.slice a4 x.kids.length cap4)).heap[b]? = w2.heap[b]? := by
    intro b h
    rw [Below.heap_setCell _ _ _ _ (by simp; omega), Below.heap_setCell _ _ _ _ (by simp; omega), Below.heap_setCell _ _ _ _ (by simp; omega), Below.heap_setCell _ _ _ _ (by simp; omega), Below.heap_setCell _ _ _ _ (by simp; omega), Below.heap_setCell _ _ _ _ (by simp; omega)]
  have hB2 : Below w.heap.size w w2 := hB1.trans (hb2.mono (by have := hB1.size; omega))
  have hB3 := (((((hB2.setCell (p := ⟨w.heap.size, 4, none⟩) (Nat.le_refl _) (.slice a4 x.kids.length cap4)).setCell (p := ⟨w.heap.size + 1, 0, none⟩) (by simp) (.int .i64 x.kind)).setCell (p := ⟨w.heap.size + 1, 1, none⟩) (by simp) (.string x.name)).setCell (p := ⟨w.heap.size + 1, 2, none⟩) (by simp) (.slice a3 x.attrs.length cap3)).setCell (p := ⟨w.heap.size + 1, 3, none⟩) (by simp) (.string x.text)).setCell (p := ⟨w.heap.size + 1, 4, none⟩) (by simp) (.slice a4 x.kids.length cap4)
  have hz5 : ((((((w2.setCell ⟨w.heap.size, 4, none⟩ (.slice a4 x.kids.length cap4)).setCell ⟨w.heap.size + 1, 0, none⟩ (.int .i64 x.kind)).setCell ⟨w.heap.size + 1, 1, none⟩ (.string x.name)).setCell ⟨w.heap.size + 1, 2, none⟩ (.slice a3 x.attrs.length cap3)).setCell ⟨w.heap.size + 1, 3, none⟩ (.string x.text)).setCell ⟨w.heap.size + 1, 4, none⟩ (.slice a4 x.kids.length cap4)).heap.size = w2.heap.size := by simp [World.setCell]
  have e1 := (((((e0.far (p := ⟨w.heap.size, 4, none⟩) (by simp) (.slice a4 x.kids.length cap4)).set 0 (.int .i64 x.kind)).set 1 (.string x.name)).set 2 (.slice a3 x.attrs.length cap3)).set 3 (.string x.text)).set 4 (.slice a4 x.kids.length cap4)
  simp only [List.set_cons_succ, List.set_cons_zero] at e1
  obtain ⟨W5, hW5⟩ : ∃ W5, (((((w2.setCell ⟨w.heap.size, 4, none⟩ (.slice a4 x.kids.length cap4)).setCell ⟨w.heap.size + 1, 0, none⟩ (.int .i64 x.kind)).setCell ⟨w.heap.size + 1, 1, none⟩ (.string x.name)).setCell ⟨w.heap.size + 1, 2, none⟩ (.slice a3 x.attrs.length cap3)).setCell ⟨w.heap.size + 1, 3, none⟩ (.string x.text)).setCell ⟨w.heap.size + 1, 4, none⟩ (.slice a4 x.kids.length cap4) = W5 := ⟨_, rfl⟩
  rw [hW5] at hfar hB3 hz5 e1 ⊢
  clear hW5 q0 q1 q2 q3 q4 p4 r0 r1 r2 r3 r4 s0 s1 s2 s3 s4 d0 e0 b4 b5
  have t0 := e1.cell (i := 0) rfl
  have t1 := e1.cell (i := 1) rfl
  have t2 := e1.cell (i := 2) rfl
  have t3 := e1.cell (i := 3) rfl
  have t4 := e1.cell (i := 4) rfl
  have hW1s := hB1.size
  have hw1 : w.heap.size + 2 ≤ W1.heap.size := by rw [hz1]; have := hsz1; simp at this; omega
  refine bodyPost_ret (v := x.val (.slice a3 x.attrs.length cap3) (.slice a4 x.kids.length cap4)) (by simp [results, Tryz.results218, go_sem, t0, t1, t2, t3, t4]) rfl ?_
  have o2 := own_keep hown2.out (w' := W5) (fun g hg => by
    have h1 := hown2.out.lt g hg
    rw [hfar g h1.1]; exact hb2.block g h1.2)
  have o3 := own_keep hown3.out (w' := W5) (fun g hg => hfar g (by have h1 := hown3.out.lt g hg; omega))
  refine ⟨_, _, zs, F, rfl, own_base o2 (fun g hg => by have := (o2.lt g hg).1; omega), own_base o3 (fun g hg => by have := (o3.lt g hg).1; omega), OwnC.keep _ _ _ (fun b hb => hfar b (by have := hspan.out.2 b (by simp [hb]); omega)) hown4.out, ?_, hB3⟩
  have sp := Span.own hown2.out
  exact Span.mono (Span.append sp (hspan.out) (by omega) (by omega)) (by omega) (by omega)
end Go.Proofs.YteefodibpjgicaaGreat

namespace Go.Proofs.YteefodibpjgicaaGreat
open Go.RowKit
abbrev NV.cells (b : NV) : List Value := b.x.cells b.va b.vk
def cellsV (L : List NV) : List Value := L.flatMap NV.cells
def NV.ok (b : NV) : Prop := (∃ a c, b.va = .slice a b.x.attrs.length c) ∧ ∃ a c, b.vk = .slice a b.x.kids.length c
theorem cellsV_cons (b : NV) (L : List NV) : cellsV (b :: L) = b.cells ++ cellsV L := rfl
theorem cellsV_append (A B : List NV) : cellsV (A ++ B) = cellsV A ++ cellsV B := by simp [cellsV]
theorem cellsV_one (b : NV) : cellsV [b] = b.cells := by simp [cellsV]
theorem cellsV_snoc (A : List NV) (b : NV) : cellsV (A ++ [b]) = cellsV A ++ b.cells := by rw [cellsV_append, cellsV_one]
theorem cellsV_len (L : List NV) : (cellsV L).length = L.length * 5 := by
  induction L with
  | nil => rfl
  | cons b r ih => rw [cellsV_cons, List.length_append, ih, List.length_cons]; simp; omega
theorem RepV.ok {S : Nat → Prop} {w : World} {b : NV} (h : RepV S w b.x b.va b.vk) : b.ok := ⟨h.at_.slice, h.kids.slice⟩
theorem RepC.nv {S : Nat → Prop} {w : World} : ∀ (l : List Nd) (xs : List Value), RepC S w xs l → ∃ L : List NV, L.map NV.x = l ∧ xs = cellsV L ∧ ∀ b ∈ L, RepV S w b.x b.va b.vk := by
  intro l
  induction l using Nd.ind with
  | h0 => intro xs h; rw [RepC] at h; exact ⟨[], rfl, h, fun b hb => by cases hb⟩
  | h1 k n ats t ks r _ ih2 =>
    intro xs h
    obtain ⟨va, vk, ys, rfl, h2, h3, h5⟩ := RepC.cons_iff.1 h
    obtain ⟨L, rfl, rfl, hL⟩ := ih2 _ h5
    refine ⟨⟨.mk k n ats t ks, va, vk⟩ :: L, rfl, rfl, fun b hb => ?_⟩
    rcases List.mem_cons.1 hb with rfl | hb
    · exact ⟨h2, h3⟩
    · exact hL b hb
theorem RepC.of_nv {S : Nat → Prop} {w : World} {L : List NV} (h : ∀ b ∈ L, RepV S w b.x b.va b.vk) : RepC S w (cellsV L) (L.map NV.x) := by
  induction L with
  | nil => exact RepC.nil _ _
  | cons b r ih =>
    rw [cellsV_cons, List.map_cons]
    exact RepC.append (m := r.map NV.x) (ih (fun c hc => h c (by simp [hc]))) [b.x] _ (RepC.single (h b (by simp)))
theorem cellsV_at (L : List NV) (i : Nat) (h : i < L.length) :
    (cellsV L)[i * 5]? = some (.int .i64 L[i].x.kind) ∧ (cellsV L)[i * 5 + 1]? = some (.string L[i].x.name) ∧ (cellsV L)[i * 5 + 2]? = some L[i].va ∧ (cellsV L)[i * 5 + 3]? = some (.string L[i].x.text) ∧ (cellsV L)[i * 5 + 4]? = some L[i].vk := by
  induction L generalizing i with
  | nil => simp at h
  | cons b r ih =>
    cases i with
    | zero => simp [cellsV_cons, NV.cells]
    | succ i =>
      have := ih i (by simpa using h)
      rw [cellsV_cons, show (i + 1) * 5 = i * 5 + 1 + 1 + 1 + 1 + 1 by omega]
      simpa [NV.cells] using this
theorem Row.atV {S : Nat → Prop} {w : World} {a : Option Addr} {n cap : Nat} {L : List NV} (h : Row S w 5 (.slice a n cap) L.length (cellsV L)) (i : Nat) (hi : i < L.length) :
    ∃ b off, a = some ⟨b, off, none⟩ ∧ S b ∧ w.cell? ⟨b, off + i * 5, none⟩ = some (.int .i64 L[i].x.kind) ∧ w.cell? ⟨b, off + i * 5 + 1, none⟩ = some (.string L[i].x.name) ∧ w.cell? ⟨b, off + i * 5 + 2, none⟩ = some L[i].va ∧ w.cell? ⟨b, off + i * 5 + 3, none⟩ = some (.string L[i].x.text) ∧ w.cell? ⟨b, off + i * 5 + 4, none⟩ = some L[i].vk := by
  obtain ⟨h0, a', cap', h1, h2, h3, h4, h5⟩ := h
  cases h1
  obtain ⟨b, off, rfl, h7, h8⟩ := h5 (by omega)
  obtain ⟨c0, c1, c2, c3, c4⟩ := cellsV_at L i hi
  exact ⟨b, off, rfl, h7, h8 _ _ c0, h8 _ _ c1, h8 _ _ c2, h8 _ _ c3, h8 _ _ c4⟩
theorem own_atV {w : World} {B g : Nat} {n cap : Nat} {L : List NV} (h : w.ownsRow B 41 5 (.slice (some ⟨g, 0, none⟩) n cap) n (cellsV L)) (i : Nat) (hi : i < L.length) :
    w.cell? ⟨g, i * 5, none⟩ = some (.int .i64 L[i].x.kind) ∧ w.cell? ⟨g, i * 5 + 3, none⟩ = some (.string L[i].x.text) ∧ w.frozen? ⟨g, i * 5 + 3, none⟩ = false := by
  obtain ⟨c0, c1, c2, c3, c4⟩ := cellsV_at L i hi
  have hc := fun j u hu => h.cells (g := g) rfl j u hu
  refine ⟨by have := hc _ _ c0; rwa [add_plain', Nat.zero_add] at this, by have := hc _ _ c3; rwa [add_plain', Nat.zero_add] at this, ?_⟩
  rcases h.2 with ⟨h', _⟩ | ⟨g', cap', cur, h', _, hg, _⟩
  · cases h'
  · cases h'
    simp [World.frozen?, hg]
theorem wpList_appK {P : Program} {ops : Array Oper} {rest : List Oper} {o : Oper} {a : Act} {Q : Exit → Act → World → Prop} (w1 : World) (cs : List Value) (k : Nat) (hgd : o.guard = none) (s y : Operand) (t e : TypeId)
    (ho : o.op = .call { callee := .builtin .append, args := #[s, y], argTypes := #[t, t] }) (base : Nat) {z : Value} {bytes : Nat} (ht : P.underlying t = some (.slice e))
    (hinfo : (P.info? e).map (fun i => (i.zero, i.size, i.bytes)) = some (some z, k, bytes)) (hz : z.cells.size = k) (hk : 0 < k)
    (v : Value) (n : Nat) (xs : List Value) (hs : a.eval s = v) (hown : w1.ownsRow base e k v n xs) (H : Nat) (hH : w1.heap.size = H) (hx : a.eval y = .slice (some ⟨H, 0, none⟩) 1 1) (hcs : cs.length = k) (h1 : ∀ u ∈ cs, u.oneCell' = true)
    (h63 : n + 1 ≤ 9223372036854775807) (hbytes : (n + 1) * bytes ≤ 140737488355328) (hbase : base ≤ w1.heap.size)
    (h : ∀ g cap w2, w2.ownsRow base e k (.slice (some ⟨g, 0, none⟩) (n + 1) cap) (n + 1) (xs ++ cs) → w1.grownBy w2 v.ownBlock → (v.ownBlock = some g ∨ w1.heap.size ≤ g) → wpList P ops Q rest (a.put o.dst (.slice (some ⟨g, 0, none⟩) (n + 1) cap)) w2) : wpList P ops Q (o :: rest) a (w1.alloc (.cells cs.toArray e)) := by
  subst hH
  obtain ⟨i, hi, hz0, hz1, hz2⟩ := info_parts hinfo
  refine wpList_append_lies _ hgd s y t ho base e i z k bytes ht hi hz0 hz1 hz2 hz hk v n xs hs (hown.alloc _) ⟨w1.heap.size, 0, none⟩ 1 1 cs hx (by omega) ?_ h1 (by omega) (by unfold maxLen; omega) hbytes (by simp; omega) _ rfl ?_
  · intro j u hj
    rw [add_plain', Nat.zero_add, World.cell?_alloc_at _ _ _ _ rfl]
    simpa using hj
  · intro g cap w2 h2 h3 h4 _
    exact h g cap w2 h2 (grownBy_of_alloc h3) (by
      rcases h4 with h4 | h4
      · exact .inl h4
      · right; rw [h4]; simp)
theorem own_below3 {w w1 : World} {base : Nat} {e : TypeId} {k : Nat} {v : Value} {n : Nat} {xs : List Value} (h : w.ownsRow base e k v n xs) (hb : Below w.heap.size w w1) : w1.ownsRow base e k v n xs :=
  own_keep h (fun g hg => hb.block g (h.lt g hg).2)
theorem below_own {B base : Nat} {e : TypeId} {k n : Nat} {v : Value} {xs : List Value} {a w w' : World} (h : Below B a w) (hown : w.ownsRow base e k v n xs) (hg : w.grownBy w' v.ownBlock) (hB : B ≤ w.heap.size) (hb : B ≤ base) : Below B a w' :=
  h.grown hg hB (fun k hk => by have := (hown.lt k hk).1; omega)
def NV.withText (b : NV) (t : ByteArray) : NV := ⟨M3.withText b.x t, b.va, b.vk⟩
def bareV (b : NV) : Bool := M3.bareB b.x
def pushV (out : List NV) (b : NV) : List NV :=
  if bareV b then out
  else match out.getLast? with
    | some y => if M3.isText b.x && M3.isText y.x then out.dropLast ++ [y.withText (M3.cat y.x.text b.x.text)] else out ++ [b]
    | none => out ++ [b]
def mergeV (L : List NV) : List NV := L.foldl pushV []
theorem pushV_bare {out : List NV} {b : NV} (h : bareV b = true) : pushV out b = out := by unfold pushV; rw [if_pos h]
theorem pushV_nil {b : NV} (h : bareV b = false) : pushV [] b = [b] := by unfold pushV; rw [if_neg (by simp [h])]; rfl
theorem pushV_snoc {out : List NV} {b y : NV} (h : bareV b = false) : pushV (out ++ [y]) b = if M3.isText b.x && M3.isText y.x then out ++ [y.withText (M3.cat y.x.text b.x.text)] else out ++ [y] ++ [b] := by
  unfold pushV
  rw [if_neg (by simp [h])]
  simp
theorem mergeV_snoc (L : List NV) (b : NV) : mergeV (L ++ [b]) = pushV (mergeV L) b := by simp [mergeV]
theorem pushV_map (out : List NV) (b : NV) : (pushV out b).map NV.x = M3.push (out.map NV.x) b.x := by
  cases h : bareV b
  · rcases List.eq_nil_or_concat out with rfl | ⟨o, y, rfl⟩
    · rw [pushV_nil h]; exact (M3.push_none h).symm
    · rw [List.concat_eq_append, pushV_snoc h, List.map_append, List.map_cons, List.map_nil, M3.push_snoc h]
      split <;> simp [NV.withText]
  · rw [pushV_bare h, M3.push_bare h]
theorem mergeV_map (L : List NV) : (mergeV L).map NV.x = M3.merge (L.map NV.x) := by
  have key : ∀ (L out : List NV), (L.foldl pushV out).map NV.x = (L.map NV.x).foldl M3.push (out.map NV.x) := by
    intro L
    induction L with
    | nil => intro out; rfl
    | cons b r ih => intro out; rw [List.foldl_cons, ih, pushV_map]; rfl
  exact key L []
def txtV (L : List NV) : Nat := (L.map fun b => b.x.text.size).sum
theorem txtV_append (A B : List NV) : txtV (A ++ B) = txtV A + txtV B := by simp [txtV]
theorem txtV_one (b : NV) : txtV [b] = b.x.text.size := by simp [txtV]
theorem cat_size (s t : ByteArray) : (M3.cat s t).size = s.size + t.size := by
  show (M3.cat s t).data.toList.length = s.data.toList.length + t.data.toList.length
  rw [M3.cat_data, List.length_append]
theorem txtV_push (out : List NV) (b : NV) : txtV (pushV out b) ≤ txtV out + b.x.text.size ∧ (pushV out b).length ≤ out.length + 1 := by
  cases h : bareV b
  · rcases List.eq_nil_or_concat out with rfl | ⟨o, y, rfl⟩
    · rw [pushV_nil h, txtV_one]; simp
    · rw [List.concat_eq_append, pushV_snoc h]
      split
      · rw [txtV_append, txtV_append, txtV_one, txtV_one]; simp [NV.withText, M3.withText_text, cat_size]; omega
      · rw [txtV_append, txtV_one]; simp
  · rw [pushV_bare h]; omega
theorem txtV_merge (L : List NV) : txtV (mergeV L) ≤ txtV L ∧ (mergeV L).length ≤ L.length := by
  have key : ∀ (L out : List NV), txtV (L.foldl pushV out) ≤ txtV out + txtV L ∧ (L.foldl pushV out).length ≤ out.length + L.length := by
    intro L
    induction L with
    | nil => intro out; simp [txtV]
    | cons b r ih =>
      intro out
      have h1 := ih (pushV out b)
      have h2 := txtV_push out b
      have h3 : txtV (b :: r) = b.x.text.size + txtV r := by simp [txtV]
      rw [List.foldl_cons, h3, List.length_cons]
      omega
  have := key L []
  simpa [mergeV, txtV] using this
theorem txtV_mem {L : List NV} {b : NV} (h : b ∈ L) : b.x.text.size ≤ txtV L := by
  induction L with
  | nil => cases h
  | cons c r ih =>
    have h3 : txtV (c :: r) = c.x.text.size + txtV r := by simp [txtV]
    rcases List.mem_cons.1 h with rfl | h
    · omega
    · have := ih h; omega
end Go.Proofs.YteefodibpjgicaaGreat

namespace Go.Proofs.YteefodibpjgicaaGreat
open Go.RowKit
def ShPost (L : List NV) (w : World) (e : Ending) (w' : World) : Prop := ∃ v', e = .returned v' ∧ w'.ownsRow w.heap.size 41 5 v' L.length (cellsV L) ∧ Below w.heap.size w w'
theorem five_one (k : Int) (n t : ByteArray) (a1 a2 : Option Addr) (n1 c1 n2 c2 : Nat) : ∀ u ∈ ([.int .i64 k, .string n, .slice a1 n1 c1, .string t, .slice a2 n2 c2] : List Value), u.oneCell' = true := by simp [Value.oneCell']
theorem meas_nat {n k : Nat} (h : k < n) : n - (intOf (.int .i64 ((k : Int) + 1))).toNat < n - (intOf (.int .i64 (k : Int))).toNat := by
  show n - ((k : Int) + 1).toNat < n - (k : Int).toNat
  omega
theorem cat_eq (s t : ByteArray) : M3.cat s t = s ++ t := by
  have h := cat_mk s.data.toList t
  have e : (⟨s.data.toList.toArray⟩ : ByteArray) = s := by cases s; simp
  rw [e] at h
  rw [h]; rfl
theorem setText_cells (A : List NV) (y : NV) (t : ByteArray) (i : Nat) (h : i = A.length) : (cellsV (A ++ [y])).set (i * 5 + 3) (.string t) = cellsV (A ++ [y.withText t]) := by
  subst h
  rw [cellsV_snoc, cellsV_snoc]
  have h5 : (cellsV A).length = A.length * 5 := cellsV_len A
  rw [List.set_append_right _ _ (by omega), h5, show A.length * 5 + 3 - A.length * 5 = 3 by omega]
  obtain ⟨x, va, vk⟩ := y
  cases x
  rfl
set_option maxHeartbeats 4000000 in
set_option maxRecDepth 100000 in
theorem ref03MergeV (S : Nat → Prop) (v : Value) (L : List NV) (w : World) (hS : ∀ b, S b → b < w.heap.size) (hr : Row S w 5 v L.length (cellsV L)) (hok : ∀ b ∈ L, b.ok) (hl : L.length ≤ 1000000) (ht : txtV L ≤ 1073741824) :
    Calls Tryz.prog 50 #[v] w (ShPost (mergeV L) w) := by
  obtain ⟨a, cap, rfl⟩ := hr.slice
  obtain ⟨_, hlc, hcm⟩ := hr.len
  replace hok := Lib.hid hok
  go_enter Tryz.func50, Tryz.ntmps50
  go_wp2_with (fail)
  go_loopw [3, 4, 5] (fun u3 u4 u5 wr => ∃ (i : Nat) (A : List NV), i ≤ L.length ∧ u4 = .int .i64 (i : Int) ∧ Hid (A = mergeV (L.take i)) ∧ wr.ownsRow w.heap.size 41 5 u3 A.length (cellsV A) ∧ Below w.heap.size w wr) (fun _ u4 _ _ => L.length - (intOf u4).toNat)
  case atStart => exact ⟨0, [], by omega, rfl, rfl, World.ownsRow_nil _ _ _ _, Below.refl _ _⟩
  case round =>
    obtain ⟨i, A, hi, rfl, hA, hown, hb⟩ := hrel
    have hlen : ∀ W, (Builtin.len_ #[25] 3 #[u3]).run Tryz.prog W = .ok (.int .i64 (A.length : Int)) W := by
      obtain ⟨a3, cap3, rfl⟩ := own_slice hown
      exact fun _ => rfl
    have hz := hb.size
    have hAl : A.length ≤ 1000000 := by rw [hA.out]; have := (txtV_merge (L.take i)).2; have := List.length_take_le i L; omega
    have hAt : txtV A ≤ 1073741824 := by
      rw [hA.out]
      have h1 := (txtV_merge (L.take i)).1
      have h2 : txtV L = txtV (L.take i) + txtV (L.drop i) := by rw [← txtV_append, List.take_append_drop]
      omega
    by_cases hlt : i < L.length
    · obtain ⟨b, off, rfl, hSb, c0, c1, c2, c3, c4⟩ := (hr.below hS hb).atV i hlt
      have hbl := hS b hSb
      have htk : L.take (i + 1) = L.take i ++ [L[i]] := List.take_succ_eq_append_getElem hlt
      have hA2 : Hid (mergeV (L.take (i + 1)) = pushV A L[i]) := by show _ = _; rw [htk, mergeV_snoc, hA.out]
      have hxt := txtV_mem (List.getElem_mem hlt)
      have hkx := hok.out _ (List.getElem_mem hlt)
      clear hA htk
      generalize L[i] = x at *
      obtain ⟨⟨k, n, ats, t, ks⟩, va, vk⟩ := x
      obtain ⟨⟨a1, e1, hva⟩, a2, e2, hvk⟩ := hkx
      simp only [Nd.kind, Nd.name, Nd.text, Nd.attrs, Nd.kids] at c0 c1 c2 c3 c4 hxt hva hvk
      subst hva
      subst hvk
      have hbare : bareV ⟨.mk k n ats t ks, .slice a1 ats.length e1, .slice a2 ks.length e2⟩ = ((k == 2) && t.toList.isEmpty) := rfl
      cases hk : (k == 2)
      · -- no text
        rw [hk] at hbare
        have hp : pushV A ⟨.mk k n ats t ks, .slice a1 ats.length e1, .slice a2 ks.length e2⟩ = A ++ [(⟨.mk k n ats t ks, .slice a1 ats.length e1, .slice a2 ks.length e2⟩ : NV)] := by
          rcases List.eq_nil_or_concat A with rfl | ⟨o, y, rfl⟩
          · exact pushV_nil hbare
          · rw [List.concat_eq_append, pushV_snoc hbare]
            have h3 : M3.isText (.mk k n ats t ks) = false := hk
            rw [h3]; rfl
        rw [hp] at hA2
        clear hp hbare
        go_wp2_with (at_builtin; refine wpList_appK _ [.int .i64 k, .string n, .slice a1 ats.length e1, .string t, .slice a2 ks.length e2] 5 rfl _ _ 25 41 rfl w.heap.size Tryz.underlying25 infoN rfl (by omega) _ A.length (cellsV A) rfl hown _ rfl rfl rfl (five_one _ _ _ _ _ _ _ _ _) (by omega) (by omega) (by omega) ?_; intro g cp w2 hown2 hgrow2 hat2)
        have hb2 := below_own hb hown hgrow2 hz (Nat.le_refl _)
        have hown3 : w2.ownsRow w.heap.size 41 5 (.slice (some ⟨g, 0, none⟩) (A.length + 1) cp) (A ++ [(⟨.mk k n ats t ks, .slice a1 ats.length e1, .slice a2 ks.length e2⟩ : NV)]).length (cellsV (A ++ [(⟨.mk k n ats t ks, .slice a1 ats.length e1, .slice a2 ks.length e2⟩ : NV)])) := by
          rw [cellsV_snoc]; rw [List.length_append]; exact hown2
        clear hown2 hgrow2 hat2
        go_roundw
        case rel => exact ⟨i + 1, A ++ [(⟨.mk k n ats t ks, .slice a1 ats.length e1, .slice a2 ks.length e2⟩ : NV)], by omega, by go_num, Lib.hid hA2.out.symm, hown3, hb2⟩
        case measure => exact meas_nat hlt
      · obtain rfl : k = 2 := by simpa using hk
        clear hk
        cases hte : t.toList.isEmpty
        · rw [hte] at hbare
          rcases List.eq_nil_or_concat A with rfl | ⟨o, y, rfl⟩
          · rw [pushV_nil hbare] at hA2
            clear hbare
            go_wp2_with (at_builtin; refine wpList_appK _ [.int .i64 2, .string n, .slice a1 ats.length e1, .string t, .slice a2 ks.length e2] 5 rfl _ _ 25 41 rfl w.heap.size Tryz.underlying25 infoN rfl (by omega) _ 0 (cellsV []) rfl hown _ rfl rfl rfl (five_one _ _ _ _ _ _ _ _ _) (by omega) (by omega) (by omega) ?_; intro g cp w2 hown2 hgrow2 hat2)
            have hb2 := below_own hb hown hgrow2 hz (Nat.le_refl _)
            have hown3 : w2.ownsRow w.heap.size 41 5 (.slice (some ⟨g, 0, none⟩) (0 + 1) cp) ([] ++ [(⟨.mk 2 n ats t ks, .slice a1 ats.length e1, .slice a2 ks.length e2⟩ : NV)]).length (cellsV ([] ++ [(⟨.mk 2 n ats t ks, .slice a1 ats.length e1, .slice a2 ks.length e2⟩ : NV)])) := by
              rw [cellsV_snoc]; exact hown2
            clear hown2 hgrow2 hat2
            go_roundw
            case rel => exact ⟨i + 1, [] ++ [(⟨.mk 2 n ats t ks, .slice a1 ats.length e1, .slice a2 ks.length e2⟩ : NV)], by omega, by go_num, Lib.hid hA2.out.symm, hown3, hb2⟩
            case measure => exact meas_nat hlt
          · rw [List.concat_eq_append] at *
            have hol : (o ++ [y]).length = o.length + 1 := by simp
            rw [hol] at hown hlen hAl
            obtain ⟨g3, cap3, rfl, hg3, hg3l⟩ := hown.form (by omega)
            clear hlen
            obtain ⟨o0, o3, f3⟩ := own_atV hown o.length (by omega)
            rw [List.getElem_append_right (Nat.le_refl _)] at o0 o3
            simp only [Nat.sub_self, List.getElem_cons_zero] at o0 o3
            rw [pushV_snoc hbare] at hA2
            have hyt : y.x.text.size ≤ 1073741824 := by rw [txtV_append, txtV_one] at hAt; omega
            have hi1 : ((o.length : Int) + 1 - 1) = (o.length : Int) := by omega
            have hcp : (cap3 : Int) ≤ 9223372036854775807 ∧ (o.length : Int) < (cap3 : Int) := by
              rcases hown.2 with ⟨h', _⟩ | ⟨g', cap', cur, h', _, _, q1, q2, _⟩
              · cases h'
              · cases h'
                unfold maxLen at q2
                omega
            obtain ⟨hcp1, hcp2⟩ := hcp
            obtain ⟨⟨k2, n2, ats2, t2, ks2⟩, va2, vk2⟩ := y
            simp only [Nd.kind, Nd.text] at o0 o3 hyt
            cases hk2 : (k2 == 2)
            · have h3 : M3.isText (.mk k2 n2 ats2 t2 ks2) = false := hk2
              simp only [h3, Bool.and_false, Bool.false_eq_true, if_false] at hA2
              clear h3 hbare
              go_wp2_with (at_builtin; refine wpList_appK _ [.int .i64 2, .string n, .slice a1 ats.length e1, .string t, .slice a2 ks.length e2] 5 rfl _ _ 25 41 rfl w.heap.size Tryz.underlying25 infoN rfl (by omega) _ (o.length + 1) (cellsV (o ++ [(⟨.mk k2 n2 ats2 t2 ks2, va2, vk2⟩ : NV)])) rfl hown _ rfl rfl rfl (five_one _ _ _ _ _ _ _ _ _) (by omega) (by omega) (by omega) ?_; intro g cp w2 hown2 hgrow2 hat2)
              have hb2 := below_own hb hown hgrow2 hz (Nat.le_refl _)
              have hown3 : w2.ownsRow w.heap.size 41 5 (.slice (some ⟨g, 0, none⟩) (o.length + 1 + 1) cp) ((o ++ [(⟨.mk k2 n2 ats2 t2 ks2, va2, vk2⟩ : NV)]) ++ [(⟨.mk 2 n ats t ks, .slice a1 ats.length e1, .slice a2 ks.length e2⟩ : NV)]).length (cellsV ((o ++ [(⟨.mk k2 n2 ats2 t2 ks2, va2, vk2⟩ : NV)]) ++ [(⟨.mk 2 n ats t ks, .slice a1 ats.length e1, .slice a2 ks.length e2⟩ : NV)])) := by
                rw [cellsV_snoc, List.length_append, hol]; exact hown2
              clear hown2 hgrow2 hat2
              go_roundw
              case rel => exact ⟨i + 1, (o ++ [(⟨.mk k2 n2 ats2 t2 ks2, va2, vk2⟩ : NV)]) ++ [(⟨.mk 2 n ats t ks, .slice a1 ats.length e1, .slice a2 ks.length e2⟩ : NV)], by omega, by go_num, Lib.hid hA2.out.symm, hown3, hb2⟩
              case measure => exact meas_nat hlt
            · have h3 : M3.isText (.mk k2 n2 ats2 t2 ks2) = true := hk2
              have h4 : M3.isText (.mk 2 n ats t ks) = true := rfl
              simp only [h3, h4, Bool.and_self, if_true] at hA2
              clear h3 h4 hbare
              obtain rfl : k2 = 2 := by simpa using hk2
              go_wp2_with (fail)
              have hq1 : (o.length : Int) < (o.length : Int) + 1 := by omega
              have hq2 : (i : Int) < (L.length : Int) := by omega
              have hq3 : ¬ (9223372036854775807 < t2.size + t.size) := by omega
              go_still_tail 15, (by kernel_rfl)
              change wpList _ _ _ _ _ wr.drew
              go_wp2_with (fail)
              have hst := (hown.stored (o.length * 5 + 3) (.string (t2 ++ t))).1
              have hown3 := own_keep hst (w' := (wr.setCell ⟨g3, o.length * 5 + 3, none⟩ (.string (t2 ++ t))).drew) (fun _ _ => rfl)
              rw [setText_cells _ _ _ _ rfl, ← cat_eq] at hown3
              have hb3 : Below w.heap.size w (wr.setCell ⟨g3, o.length * 5 + 3, none⟩ (.string (t2 ++ t))).drew := (hb.setCell (p := ⟨g3, o.length * 5 + 3, none⟩) hg3 _).drew
              go_roundw
              case rel => exact ⟨i + 1, o ++ [NV.withText (⟨.mk 2 n2 ats2 t2 ks2, va2, vk2⟩ : NV) (M3.cat t2 t)], by omega, by go_num, Lib.hid hA2.out.symm, by rw [List.length_append]; exact hown3, hb3⟩
              case measure => exact meas_nat hlt
        · rw [hte] at hbare
          rw [pushV_bare hbare] at hA2
          go_wp2_with (fail)
          go_roundw
          case rel => exact ⟨i + 1, A, by omega, by go_num, Lib.hid hA2.out.symm, hown, hb⟩
          case measure => exact meas_nat hlt
    · obtain rfl : i = L.length := by omega
      rw [List.take_length] at hA
      go_wp2_with (fail)
      go_ret
      exact ⟨u3, rfl, by rw [← hA.out]; exact hown, hb⟩
end Go.Proofs.YteefodibpjgicaaGreat

namespace Go.Proofs.YteefodibpjgicaaGreat
open Go.RowKit Go.Maps Go.WideShapes
theorem zero32 (w : World) : (zeroValue 21).run Tryz.prog w = .ok (.int .i32 0) w := by kernel_rfl
def namesL : List (Lit × DataW Unit) := M2.tbl.map fun p => (.string p.1, .lit (.int .i32 (p.2 : Int)))
def namesD : DataW Unit := rowD namesL (.map [])
theorem namesL_keys : ∀ p ∈ namesL, WideAt.IsKeyLit p.1 := by
  intro p hp
  obtain ⟨q, _, rfl⟩ := List.mem_map.1 hp
  trivial
theorem namesL_apart : namesL.Pairwise (fun p q => p.1 ≠ q.1) := by
  rw [namesL, List.pairwise_map]
  exact M2.tbl_apart.imp (fun h e => h (by simpa using e))
theorem names_has (s : List UInt8) : Maps.has namesD (.string s) = (M2.nm s).isSome := by
  unfold namesD
  rw [rowD_has _ _ _ isMap_empty namesL_keys, has_eq, List.any_nil, Bool.or_false]
  rw [Bool.eq_iff_iff, List.any_eq_true]
  constructor
  · rintro ⟨p, hp, h⟩
    obtain ⟨q, hq, rfl⟩ := List.mem_map.1 hp
    have h := WideAt.sameKey_eq h
    simp only [Lit.string.injEq] at h
    rw [← h, M2.nm_of_mem hq]
    rfl
  · intro h
    obtain ⟨n, hn⟩ := Option.isSome_iff_exists.1 h
    exact ⟨_, List.mem_map.2 ⟨_, M2.nm_mem hn, rfl⟩, WideAt.sameKey_self (by trivial)⟩
theorem names_at (s : List UInt8) : namesD.atKey (.string s) (.lit (.int .i32 0)) = .lit (.int .i32 (((M2.nm s).getD 0 : Nat) : Int)) := by
  cases h : M2.nm s with
  | none =>
    refine atKey_of_not_has ?_ _
    rw [names_has, h]
    rfl
  | some n => exact rowD_at namesL _ _ (.string s, .lit (.int .i32 (n : Int))) isMap_empty namesL_keys namesL_apart (List.mem_map.2 ⟨_, M2.nm_mem h, rfl⟩)
abbrev Names (w : World) (b : Nat) : Prop := w.ownsMap Tryz.prog 9 (plainElem Tryz.prog 21) b 15 namesD
set_option maxHeartbeats 4000000 in
set_option maxRecDepth 100000 in
theorem refsNames (w : World) :
    Calls Tryz.prog 177 #[] w fun e w' => ∃ b, e = .returned (.map (some b)) ∧ Names w' b ∧ Below w.heap.size w w' := by
  have upd : ∀ (wa : World) (D : DataW Unit) (n : Nat) (l : List UInt8) (c : Int), wa.ownsMap Tryz.prog 9 (plainElem Tryz.prog 21) w.heap.size n D → n < 100 → l.length ≤ 100 → 0 ≤ c → c ≤ 10000 →
      ∃ wb, (Instr.mapUpdate 173 (.map (some w.heap.size)) (.string ⟨l.toArray⟩) (.int .i32 c)).run Tryz.prog wa = .ok () wb ∧ wb.ownsMap Tryz.prog 9 (plainElem Tryz.prog 21) w.heap.size (n + 1) (D.put (.string l) (.lit (.int .i32 c))) ∧ wa.grownBy wb (some w.heap.size) := by
    intro wa D n l c ho hn hl h0 h1
    refine ho.update lawS Tryz.underlying173 (by unfold maxLen; omega) (WideMaps.keyOf_string_mk Tryz.underlying9 (s := ⟨l.toArray⟩) (by unfold maxLen; show l.length ≤ _; omega)) (plainElem_int Tryz.underlying21 ?_)
    have h3 : IntKind.i32.min = -2147483648 := rfl
    have h4 : IntKind.i32.max = 2147483647 := rfl
    simp only [Lit.wf, Bool.and_eq_true, decide_eq_true_eq, h3, h4]
    omega
  have o0 := World.ownsMap_made w Tryz.prog 9 (plainElem (H := Unit) Tryz.prog 21)
  have b0 := (Below.refl w.heap.size w).alloc (Nat.le_refl _) (.map #[] 0)
  have hmm := @run_makeMap Tryz.prog 173 w
  generalize w.alloc (.map #[] 0) = w0 at *
  obtain ⟨w1, r1, o1, g1⟩ := upd w0 _ 0 [97, 109, 112] 38 o0 (by decide) (by decide) (by decide) (by decide)
  obtain ⟨w2, r2, o2, g2⟩ := upd w1 _ 1 [108, 116] 60 o1 (by decide) (by decide) (by decide) (by decide)
  obtain ⟨w3, r3, o3, g3⟩ := upd w2 _ 2 [103, 116] 62 o2 (by decide) (by decide) (by decide) (by decide)
  obtain ⟨w4, r4, o4, g4⟩ := upd w3 _ 3 [113, 117, 111, 116] 34 o3 (by decide) (by decide) (by decide) (by decide)
  obtain ⟨w5, r5, o5, g5⟩ := upd w4 _ 4 [97, 112, 111, 115] 39 o4 (by decide) (by decide) (by decide) (by decide)
  obtain ⟨w6, r6, o6, g6⟩ := upd w5 _ 5 [110, 98, 115, 112] 160 o5 (by decide) (by decide) (by decide) (by decide)
  obtain ⟨w7, r7, o7, g7⟩ := upd w6 _ 6 [99, 111, 112, 121] 169 o6 (by decide) (by decide) (by decide) (by decide)
  obtain ⟨w8, r8, o8, g8⟩ := upd w7 _ 7 [114, 101, 103] 174 o7 (by decide) (by decide) (by decide) (by decide)
  obtain ⟨w9, r9, o9, g9⟩ := upd w8 _ 8 [100, 101, 103] 176 o8 (by decide) (by decide) (by decide) (by decide)
  obtain ⟨w10, r10, o10, g10⟩ := upd w9 _ 9 [109, 105, 100, 100, 111, 116] 183 o9 (by decide) (by decide) (by decide) (by decide)
  obtain ⟨w11, r11, o11, g11⟩ := upd w10 _ 10 [116, 105, 109, 101, 115] 215 o10 (by decide) (by decide) (by decide) (by decide)
  obtain ⟨w12, r12, o12, g12⟩ := upd w11 _ 11 [110, 100, 97, 115, 104] 8211 o11 (by decide) (by decide) (by decide) (by decide)
  obtain ⟨w13, r13, o13, g13⟩ := upd w12 _ 12 [109, 100, 97, 115, 104] 8212 o12 (by decide) (by decide) (by decide) (by decide)
  obtain ⟨w14, r14, o14, g14⟩ := upd w13 _ 13 [104, 101, 108, 108, 105, 112] 8230 o13 (by decide) (by decide) (by decide) (by decide)
  obtain ⟨w15, r15, o15, g15⟩ := upd w14 _ 14 [101, 117, 114, 111] 8364 o14 (by decide) (by decide) (by decide) (by decide)
  have hb := (World.grownBy.trans g1 (g2.trans (g3.trans (g4.trans (g5.trans (g6.trans (g7.trans (g8.trans (g9.trans (g10.trans (g11.trans (g12.trans (g13.trans (g14.trans g15))))))))))))))
  have hB := Lib.hid (b0.grown hb b0.size (fun k hk => by cases hk; exact Nat.le_refl _))
  have hN : Hid (Names w15 w.heap.size) := o15
  clear upd b0 o0 o1 o2 o3 o4 o5 o6 o7 o8 o9 o10 o11 o12 o13 o14 o15 g1 g2 g3 g4 g5 g6 g7 g8 g9 g10 g11 g12 g13 g14 g15 hb
  go_enter Tryz.func177, Tryz.ntmps177
  go_wp2
  go_ret
  exact ⟨_, rfl, hN.out, hB.out⟩
set_option maxHeartbeats 1000000 in
theorem refsDigit (r : Int) (w : World) :
    Calls Tryz.prog 198 #[.int .i32 r] w fun e w' => e = .returned (.int .i32 (M2.digZ r)) ∧ w' = w := by
  by_cases h1 : 48 ≤ r ∧ r ≤ 57
  · rw [show M2.digZ r = r - 48 from if_pos h1]
    obtain ⟨h1, h2⟩ := h1
    go_enter Tryz.func198, Tryz.ntmps198
    go_wp2
    go_ret
    exact ⟨rfl, rfl⟩
  by_cases h2 : 97 ≤ r ∧ r ≤ 102
  · rw [show M2.digZ r = r - 97 + 10 by rw [M2.digZ, if_neg h1, if_pos h2]]
    obtain ⟨h2, h3⟩ := h2
    have hd : decide (r ≤ 57) = false := decide_eq_false (by omega)
    clear h1
    go_enter Tryz.func198, Tryz.ntmps198
    go_wp2
    go_ret
    exact ⟨rfl, rfl⟩
  by_cases h3 : 65 ≤ r ∧ r ≤ 70
  · rw [show M2.digZ r = r - 65 + 10 by rw [M2.digZ, if_neg h1, if_neg h2, if_pos h3]]
    obtain ⟨h3, h4⟩ := h3
    have hd : decide (r ≤ 57) = false := decide_eq_false (by omega)
    have hd2 : decide (97 ≤ r) = false := decide_eq_false (by omega)
    clear h1 h2
    go_enter Tryz.func198, Tryz.ntmps198
    go_wp2
    go_ret
    exact ⟨rfl, rfl⟩
  · rw [show M2.digZ r = -1 by rw [M2.digZ, if_neg h1, if_neg h2, if_neg h3]]
    go_enter Tryz.func198, Tryz.ntmps198
    go_wp2
    all_goals first | (exfalso; omega) | (go_ret; exact ⟨rfl, rfl⟩)
set_option maxHeartbeats 1000000 in
theorem refsCharacter (n : Int) (w : World) :
    Calls Tryz.prog 196 #[.int .i32 n] w fun e w' => e = .returned (.int .i32 (M2.chr n)) ∧ w' = w := by
  by_cases h : n = 0 ∨ n = 13 ∨ (55296 ≤ n ∧ n ≤ 57343) ∨ 1114111 < n
  · rw [show M2.chr n = 65533 from if_pos h]
    go_enter Tryz.func196, Tryz.ntmps196
    go_wp2
    all_goals first | (exfalso; omega) | (go_ret; exact ⟨rfl, rfl⟩)
  · rw [show M2.chr n = n from if_neg h]
    have e0 : (n == 0) = false := by simpa using fun e => h (Or.inl e)
    have e1 : (n == 13) = false := by simpa using fun e => h (Or.inr (Or.inl e))
    have e2 : decide (1114111 < n) = false := decide_eq_false (fun e => h (Or.inr (Or.inr (Or.inr e))))
    by_cases h5 : 55296 ≤ n
    · have e3 : decide (n ≤ 57343) = false := decide_eq_false (fun e => h (Or.inr (Or.inr (Or.inl ⟨h5, e⟩))))
      clear h
      go_enter Tryz.func196, Tryz.ntmps196
      go_wp2
      go_ret
      exact ⟨rfl, rfl⟩
    · have e4 : decide (55296 ≤ n) = false := decide_eq_false h5
      clear h
      go_enter Tryz.func196, Tryz.ntmps196
      go_wp2
      go_ret
      exact ⟨rfl, rfl⟩
theorem nextDec {P : Program} (w : World) (k : Nat) (s : ByteArray) (pos : Nat) (hk : w.heap[k]? = some (.stringIter s pos)) (h : pos < s.size) : ∀ ty,
    (Instr.next (.pointer (some ⟨k, 0, none⟩)) true ty).run P w =
      .ok (.tuple #[.bool true, .int .i64 pos, .int .i32 (M1.dec (s.data.toList.drop pos)).1]) (w.iterAt k s (pos + (M1.dec (s.data.toList.drop pos)).2)) := fun ty => by
  rw [Lib.run_next_any_at w k s pos ty hk h, M1.decode_eq]
set_option maxHeartbeats 2000000 in
set_option maxRecDepth 100000 in
theorem refsNumber (s : ByteArray) (b m : Nat) (w : World) (hb0 : 1 ≤ b) (hb : b ≤ 16) (hm : m ≤ 7) (hpow : ∀ k, k ≤ m → ((b : Int)) ^ k ≤ 16777216) (hs : s.size ≤ 9223372036854775807) :
    Calls Tryz.prog 195 #[.string s, .int .i32 (b : Int), .int .i64 (m : Int)] w fun e w' => e = .returned (.tuple #[.int .i32 (M2.val b (M2.digs b m s.data.toList)), .int .i64 ((M2.digs b m s.data.toList).length : Int)]) ∧ Below w.heap.size w w' := by
  have hsz : s.size = s.data.toList.length := rfl
  generalize hl : s.data.toList = l at *
  replace hpow := Lib.hid hpow
  go_enter Tryz.func195, Tryz.ntmps195
  go_wp2
  go_loopw [8, 9] (fun u8 u9 wr => ∃ k : Nat, k ≤ l.length ∧ k ≤ m ∧ u8 = .int .i32 (M2.val b (l.take k)) ∧ u9 = .int .i64 (k : Int) ∧ wr.heap[w.heap.size]? = some (.stringIter s k) ∧ Below w.heap.size w wr ∧ Hid (∀ c ∈ l.take k, M2.isD b c = true)) (fun _ _ wr => l.length - wr.iterPos w.heap.size)
  case atStart =>
    exact ⟨0, by omega, by omega, rfl, rfl, World.iter_heap w _ 0, (Below.refl _ w).alloc (Nat.le_refl _) _, by intro c hc; simp at hc⟩
  case round =>
    obtain ⟨k, hk, hkm, rfl, rfl, hit, hbw, hall⟩ := hrel
    have hbd := M2.val_bd b _ hall.out
    have hlk : (l.take k).length = k := by rw [List.length_take]; omega
    have hpk := hpow.out k hkm
    rw [hlk] at hbd
    have hfin : (k = m ∨ k = l.length ∨ ∃ c, l[k]? = some c ∧ M2.isD b c = false) → M2.digs b m l = l.take k := M2.digs_of b m l k hk hkm hall.out
    by_cases hp : k < l.length
    · have hdr : l.drop k = l[k] :: l.drop (k + 1) := List.drop_eq_getElem_cons hp
      have hnx := nextDec (P := Tryz.prog) wr w.heap.size s k hit (by omega)
      rw [hl, hdr] at hnx
      have htk : l.take (k + 1) = l.take k ++ [l[k]] := List.take_succ_eq_append_getElem hp
      have hfc := fun (h : M2.isD b l[k] = false) => hfin (Or.inr (Or.inr ⟨l[k], List.getElem?_eq_getElem hp, h⟩))
      have hfm := fun (h : k = m) => hfin (Or.inl h)
      have hal : M2.isD b l[k] = true → ∀ c ∈ l.take (k + 1), M2.isD b c = true := by
        intro h c hc
        rw [htk] at hc
        rcases List.mem_append.1 hc with hc | hc
        · exact hall.out c hc
        · simp at hc; subst hc; exact h
      have hva : M2.val b (l.take (k + 1)) = M2.val b (l.take k) * b + M2.digZ l[k].toNat := by rw [htk, M2.val_snoc]
      have hlo := M2.dec_lo l[k] (l.drop (k + 1))
      have hhi := M2.dec_hi l[k] (l.drop (k + 1))
      have hdp := M1.dec_pos (l[k]'hp :: l.drop (k + 1)) (List.cons_ne_nil _ _)
      have hdlt := M1.dec_lt (l[k]'hp :: l.drop (k + 1))
      have hdzb := M2.digZ_bd l[k].toNat
      generalize l[k] = c at *
      generalize l.drop (k + 1) = t at *
      generalize M1.dec (c :: t) = rw_ at *
      obtain ⟨r, wd⟩ := rw_
      simp only at hnx hhi hdlt hdp
      have hbw1 := Lib.below_iterAt hbw (Nat.le_refl _) s (k + wd)
      have hit1 := Lib.iterAt_heap wr w.heap.size s k (k + wd) hit
      have hsz1 := Lib.iterAt_size wr w.heap.size s (k + wd)
      generalize wr.iterAt w.heap.size s (k + wd) = w1 at *
      have hsz2 : w.heap.size < w1.heap.size := by
        have := (Array.getElem?_eq_some_iff.1 hit1).1
        exact this
      clear hfin hdr htk
      replace hfc := Lib.hid hfc
      replace hfm := Lib.hid hfm
      replace hal := Lib.hid hal
      replace hva := Lib.hid hva
      by_cases hd : M2.isD b c = true
      · have hc128 := M2.isD_ascii hd
        have hrw := hlo hc128
        simp only [Prod.mk.injEq] at hrw
        obtain ⟨rfl, rfl⟩ := hrw
        have hd2 := of_decide_eq_true (show decide (0 ≤ M2.digZ c.toNat ∧ M2.digZ c.toNat < b) = true from hd)
        obtain ⟨hd3, hd4⟩ := hd2
        have hal2 := Lib.hid (hal.out hd)
        clear hal hfc hlo hhi hd hdlt hdp
        by_cases hkm2 : k = m
        · replace hfm := Lib.hid (hfm.out hkm2)
          have hne : ((k : Int) == (m : Int)) = true := by rw [hkm2]; simp
          clear hkm2
          have hge : decide ((b : Int) ≤ M2.digZ c.toNat) = false := decide_eq_false (by omega)
          clear hva
          go_wp2_with (go_at_call 198; refine (refsDigit _ _).mono ?_; rintro e w2 ⟨rfl, rfl⟩)
          go_ret2
          rw [hfm.out, hlk]
          exact ⟨rfl, hbw1⟩
        · have hne : ((k : Int) == (m : Int)) = false := by simpa using fun e => hkm2 (by omega)
          have hge : decide ((b : Int) ≤ M2.digZ c.toNat) = false := decide_eq_false (by omega)
          have hm1 : M2.val b (l.take k) * b ≤ 16777216 * 16 := Int.mul_le_mul (by omega) (by omega) (by omega) (by omega)
          have hm0 : 0 ≤ M2.val b (l.take k) * b := Int.mul_nonneg hbd.1 (by omega)
          go_wp2_with (go_at_call 198; refine (refsDigit _ _).mono ?_; rintro e w2 ⟨rfl, rfl⟩)
          go_roundw
          case rel => exact ⟨k + 1, by omega, by omega, by rw [hva.out], by go_num, hit1, hbw1, hal2.out⟩
          case measure => rw [iterPos_of hit1, iterPos_of hit]; omega
      · have hdf : M2.isD b c = false := by simpa using hd
        replace hfc := Lib.hid (hfc.out hdf)
        have hno : M2.digZ r < 0 ∨ (b : Int) ≤ M2.digZ r := by
          rcases Nat.lt_or_ge c.toNat 128 with h1 | h1
          · have hrw := hlo h1
            simp only [Prod.mk.injEq] at hrw
            obtain ⟨rfl, rfl⟩ := hrw
            exact M2.isD_no hdf
          · have h2 := hhi h1
            rw [M2.digZ_big _ (by omega)]
            omega
        have hdz := M2.digZ_bd r
        clear hal hva hfm hlo hhi hd hdf hdzb hpk
        rcases hno with hno | hno
        · go_wp2_with (go_at_call 198; refine (refsDigit _ _).mono ?_; rintro e w2 ⟨rfl, rfl⟩)
          go_ret2
          rw [hfc.out, hlk]
          exact ⟨rfl, hbw1⟩
        · have h0 : decide (M2.digZ r < 0) = false := decide_eq_false (by omega)
          go_wp2_with (go_at_call 198; refine (refsDigit _ _).mono ?_; rintro e w2 ⟨rfl, rfl⟩)
          go_ret2
          rw [hfc.out, hlk]
          exact ⟨rfl, hbw1⟩
    · have hnx := fun ty => Lib.run_next_end_at (P := Tryz.prog) wr w.heap.size s k ty hit (by omega)
      have hfin := Lib.hid (hfin (Or.inr (Or.inl (by omega))))
      go_wp2
      go_ret2
      rw [hfin.out, hlk]
      exact ⟨rfl, hbw⟩
def ans (o : Option (Int × Nat)) : Value := .tuple #[.int .i32 ((o.map (·.1)).getD 0), .int .i64 (((o.map (·.2)).getD 0 : Nat) : Int)]
theorem ans_mk (o : Option (Int × Nat)) : ∃ x y, ans o = .tuple #[.int .i32 x, .int .i64 y] := ⟨_, _, rfl⟩
theorem ans_none : ans none = .tuple #[.int .i32 0, .int .i64 0] := rfl
theorem ans_some (r : Int) (n : Nat) : ans (some (r, n)) = .tuple #[.int .i32 r, .int .i64 (n : Int)] := rfl
set_option maxHeartbeats 2000000 in
set_option maxRecDepth 100000 in
theorem refsNumbered (s : ByteArray) (f b m : Nat) (w : World) (hf : f ≤ s.size) (hb0 : 1 ≤ b) (hb : b ≤ 16) (hm : m ≤ 7) (hpow : ∀ k, k ≤ m → ((b : Int)) ^ k ≤ 16777216) (hs : s.size ≤ 1073741824) :
    Calls Tryz.prog 188 #[.string s, .int .i64 (f : Int), .int .i32 (b : Int), .int .i64 (m : Int)] w fun e w' => e = .returned (ans (M2.num f b m s.data.toList)) ∧ Below w.heap.size w w' := by
  have hsz : s.size = s.data.toList.length := rfl
  have hN := refsNumber (s.extract f s.size) b m w hb0 hb hm hpow (by rw [ByteArray.size_extract]; omega)
  rw [extract_end] at hN
  have hdl := M2.digs_len b m (s.data.toList.drop f)
  rw [List.length_drop] at hdl
  have hbd := M2.val_bd b _ (M2.digs_all b m (s.data.toList.drop f))
  have hpk := hpow _ hdl.1
  have hnum := Lib.hid (rfl : M2.num f b m s.data.toList = M2.num f b m s.data.toList)
  replace hnum : Hid (M2.num f b m s.data.toList = if (M2.digs b m (s.data.toList.drop f)).length = 0 ∨ s.data.toList[f + (M2.digs b m (s.data.toList.drop f)).length]? ≠ some 59 then none
    else some (M2.chr (M2.val b (M2.digs b m (s.data.toList.drop f))), f + (M2.digs b m (s.data.toList.drop f)).length + 1)) := rfl
  generalize M2.digs b m (s.data.toList.drop f) = ds at *
  generalize M2.num f b m s.data.toList = R at *
  generalize M2.val b ds = v at *
  generalize ds.length = k at *
  replace hN := Lib.hid hN
  clear hpow
  by_cases hk : k = 0
  · have hR := Lib.hid (hnum.out.trans (if_pos (Or.inl hk)))
    clear hnum hsz
    subst hk
    go_enter Tryz.func188, Tryz.ntmps188
    go_wp2_with (go_at_call 195; refine hN.out.mono ?_; rintro e w1 ⟨rfl, hb1⟩)
    go_ret2
    rw [hR.out, ans_none]
    exact ⟨rfl, hb1⟩
  by_cases he : f + k = s.size
  · have hR := Lib.hid (hnum.out.trans (if_pos (Or.inr (by rw [List.getElem?_eq_none (by omega)]; simp))))
    have hkb : ((k : Int) == 0) = false := by simpa using hk
    have heb : ((f : Int) + (k : Int) == (s.size : Int)) = true := by simpa using (by omega : (f : Int) + (k : Int) = (s.size : Int))
    clear hnum hk he hsz
    go_enter Tryz.func188, Tryz.ntmps188
    go_wp2_with (go_at_call 195; refine hN.out.mono ?_; rintro e w1 ⟨rfl, hb1⟩)
    go_ret2
    rw [hR.out, ans_none]
    exact ⟨rfl, hb1⟩
  have hlt : f + k < s.size := by omega
  have hgt : s.data.toList[f + k]? = some s[f + k] := by
    rw [List.getElem?_eq_getElem (by omega)]
    rfl
  rw [hgt] at hnum
  have hkb : ((k : Int) == 0) = false := by simpa using hk
  have heb : ((f : Int) + (k : Int) == (s.size : Int)) = false := by simpa using (by omega : ¬ (f : Int) + (k : Int) = (s.size : Int))
  by_cases h59 : s[f + k] = 59
  · have hR := Lib.hid (hnum.out.trans (if_neg (by rw [h59]; simp [hk])))
    clear hnum hk he hgt hsz
    go_enter Tryz.func188, Tryz.ntmps188
    go_wp2_with (go_at_call 195; refine hN.out.mono ?_; rintro e w1 ⟨rfl, hb1⟩)
    go_wp2_with (go_at_call 196; refine (refsCharacter _ _).mono ?_; rintro e w2 ⟨rfl, rfl⟩)
    go_ret2
    rw [hR.out, ans_some]
    exact ⟨rfl, hb1⟩
  · have hR := Lib.hid (hnum.out.trans (if_pos (Or.inr (by simpa using h59))))
    have hne : ((s[f + k].toNat : Int) != 59) = true := by
      rw [bne_iff_ne]; intro h; exact h59 (UInt8.toNat_inj.1 (by simpa using (by omega : s[f + k].toNat = 59)))
    clear hnum hk he hgt hsz h59
    go_enter Tryz.func188, Tryz.ntmps188
    go_wp2_with (go_at_call 195; refine hN.out.mono ?_; rintro e w1 ⟨rfl, hb1⟩)
    go_ret2
    rw [hR.out, ans_none]
    exact ⟨rfl, hb1⟩
theorem names_look {w : World} {b : Nat} (h : Names w b) (s : ByteArray) (hs : s.size ≤ 1073741824) :
    (Instr.lookup 173 (.map (some b)) (.string s) true).run Tryz.prog w = .ok (.tuple #[.int .i32 (((M2.nm s.data.toList).getD 0 : Nat) : Int), .bool (M2.nm s.data.toList).isSome]) w := by
  have := look_ok_int h lawS Tryz.underlying173 Tryz.underlying21 (zero32 w) (WideMaps.keyOf_string_mk Tryz.underlying9 (s := s) (by unfold maxLen; omega)) (names_at s.data.toList)
  rw [names_has] at this
  exact this
set_option maxHeartbeats 2000000 in
set_option maxRecDepth 100000 in
theorem refsNamed (s : ByteArray) (b : Nat) (w : World) (hN : Names w b) (h1 : 1 ≤ s.size) (hs : s.size ≤ 1073741824) :
    Calls Tryz.prog 189 #[.string s, .map (some b)] w fun e w' => e = .returned (ans (M2.named s.data.toList)) ∧ w' = w := by
  have hnear : (s.extract 1 (min (s.size : Int) 8).toNat).data.toList = M2.near s.data.toList := by
    rw [Lib.extract_data, show (min (s.size : Int) 8).toNat = min s.size 8 by omega]
    unfold M2.near
    have : s.data.toList.length = s.size := rfl
    rcases Nat.le_total s.size 8 with h | h
    · rw [Nat.min_eq_left h, List.take_of_length_le (by rw [List.length_drop]; omega), List.take_of_length_le (by rw [List.length_drop]; omega)]
    · rw [Nat.min_eq_right h]
  have hnsz : (s.extract 1 (min (s.size : Int) 8).toNat).size ≤ 7 := by rw [ByteArray.size_extract]; omega
  generalize hR : M2.named s.data.toList = R
  unfold M2.named at hR
  rw [← hnear] at hR
  replace hR := Lib.hid hR
  clear hnear
  go_enter Tryz.func189, Tryz.ntmps189
  go_wp2_with fail
  generalize s.extract 1 (min (s.size : Int) 8).toNat = nr at *
  refine (sIndexByte nr 59 w).mono ?_
  rintro e w' ⟨rfl, rfl⟩
  rw [show (59 : Int).toNat.toUInt8 = 59 from rfl]
  have hge := Lib.indexByte_ge nr.data.toList 59
  have hat := fun (o : Nat) (h : Lib.indexByte nr.data.toList 59 = o) => (List.getElem?_eq_some_iff.1 (Lib.indexByte_some h).1).1
  generalize Lib.indexByte nr.data.toList 59 = i at *
  by_cases hi : i < 0
  · have hR2 := Lib.hid (hR.out.symm.trans (if_pos hi))
    clear hR hat
    go_wp2
    go_ret2
    rw [hR2.out, ans_none]
    exact ⟨rfl, rfl⟩
  · obtain ⟨k, rfl⟩ : ∃ k : Nat, i = k := ⟨i.toNat, by omega⟩
    have hk : k < nr.size := hat k rfl
    have hR2 := hR.out.symm.trans (if_neg hi)
    clear hR hat
    have hl := names_look hN (nr.extract 0 k) (by rw [ByteArray.size_extract]; omega)
    have hx : (nr.extract 0 k).data.toList = nr.data.toList.take k := by rw [Lib.extract_data]; simp
    rw [hx] at hl
    rw [Int.toNat_natCast] at hR2
    cases hq : M2.nm (nr.data.toList.take k) with
    | none =>
      rw [hq] at hl hR2
      simp only [Option.getD_none, Option.isSome_none] at hl
      replace hR2 := Lib.hid (show R = none from hR2)
      clear hx hq hi
      go_wp2
      go_ret2
      rw [hR2.out, ans_none]
      exact ⟨rfl, rfl⟩
    | some n =>
      rw [hq] at hl hR2
      simp only [Option.getD_some, Option.isSome_some] at hl
      replace hR2 := Lib.hid (show R = some ((n : Int), 1 + k + 1) from hR2)
      clear hx hq hi
      go_wp2
      go_ret2
      rw [hR2.out, ans_some]
      exact ⟨rfl, rfl⟩
theorem hp_of {s : ByteArray} (p : List UInt8) (q : Bool) (h : decide (s.data.toList.take p.length = p) = q) : Lib.hasPrefix s.data.toList p = q := by
  rw [← h, Bool.eq_iff_iff, decide_eq_true_iff, Lib.hasPrefix, List.isPrefixOf_iff_prefix, List.prefix_iff_eq_take]
  exact eq_comm
set_option maxHeartbeats 2000000 in
set_option maxRecDepth 100000 in
theorem refsOne' (s : ByteArray) (b : Nat) (w : World) (hN : Names w b) (h38 : s.data.toList.head? = some 38) (hs : s.size ≤ 1073741824) :
    Calls Tryz.prog 178 #[.string s, .map (some b)] w fun e w' => e = .returned (ans (M2.one s.data.toList)) ∧ Below w.heap.size w w' := by
  have h1 : 1 ≤ s.size := by
    have : s.data.toList.length = s.size := rfl
    cases hl : s.data.toList with
    | nil => rw [hl] at h38; cases h38
    | cons c t => rw [hl] at this; simp at this; omega
  have hone : M2.one s.data.toList = if s.data.toList.take 3 = [38, 35, 120] ∨ s.data.toList.take 3 = [38, 35, 88] then M2.num 3 16 6 s.data.toList
      else if s.data.toList.take 2 = [38, 35] then M2.num 2 10 7 s.data.toList else M2.named s.data.toList := by
    unfold M2.one
    rw [if_neg (by simp [h38])]
  have len := fun (k : Nat) (p : List UInt8) (h : s.data.toList.take k = p) (hp : p.length = k) => (by
    have := congrArg List.length h
    rw [List.length_take, hp] at this
    have e : s.data.toList.length = s.size := rfl
    omega : k ≤ s.size)
  have H16 : 3 ≤ s.size → Calls Tryz.prog 188 #[.string s, .int .i64 3, .int .i32 16, .int .i64 6] w fun e w' => e = .returned (ans (M2.num 3 16 6 s.data.toList)) ∧ Below w.heap.size w w' := fun h => refsNumbered s 3 16 6 w h (by omega) (by omega) (by omega) (by decide) hs
  have H10 : 2 ≤ s.size → Calls Tryz.prog 188 #[.string s, .int .i64 2, .int .i32 10, .int .i64 7] w fun e w' => e = .returned (ans (M2.num 2 10 7 s.data.toList)) ∧ Below w.heap.size w w' := fun h => refsNumbered s 2 10 7 w h (by omega) (by omega) (by omega) (by decide) hs
  have HN := refsNamed s b w hN h1 hs
  have px := hp_of (s := s) [38, 35, 120]
  have pX := hp_of (s := s) [38, 35, 88]
  have p2 := hp_of (s := s) [38, 35]
  simp only [List.length_cons, List.length_nil] at px pX p2
  generalize M2.one s.data.toList = R at *
  clear h38 hN
  obtain ⟨x16, y16, e16⟩ := ans_mk (M2.num 3 16 6 s.data.toList)
  obtain ⟨x10, y10, e10⟩ := ans_mk (M2.num 2 10 7 s.data.toList)
  obtain ⟨xn, yn, en⟩ := ans_mk (M2.named s.data.toList)
  rw [e16] at H16
  rw [e10] at H10
  rw [en] at HN
  by_cases c1 : s.data.toList.take 3 = [38, 35, 120]
  · have hR := Lib.hid ((congrArg ans (hone.trans (if_pos (Or.inl c1)))).trans e16)
    have q1 := px true (decide_eq_true c1)
    have H := Lib.hid (H16 (len 3 _ c1 rfl))
    clear hone len H16 H10 HN px pX p2 c1 e16 e10 en
    go_enter Tryz.func178, Tryz.ntmps178
    go_wp2_with (first | (go_at_call 104; refine (hasPrefix_any _ _ _).mono ?_; rintro e w1 ⟨rfl, rfl⟩) | (go_at_call 188; refine H.out.mono ?_; rintro e w2 ⟨rfl, hb⟩))
    go_ret2
    exact ⟨by rw [hR.out]; rfl, hb⟩
  have q1 := px false (decide_eq_false c1)
  by_cases c2 : s.data.toList.take 3 = [38, 35, 88]
  · have hR := Lib.hid ((congrArg ans (hone.trans (if_pos (Or.inr c2)))).trans e16)
    have q2 := pX true (decide_eq_true c2)
    have H := Lib.hid (H16 (len 3 _ c2 rfl))
    clear hone len H16 H10 HN px pX p2 c1 c2 e16 e10 en
    go_enter Tryz.func178, Tryz.ntmps178
    go_wp2_with (first | (go_at_call 104; refine (hasPrefix_any _ _ _).mono ?_; rintro e w1 ⟨rfl, rfl⟩) | (go_at_call 188; refine H.out.mono ?_; rintro e w2 ⟨rfl, hb⟩))
    go_ret2
    exact ⟨by rw [hR.out]; rfl, hb⟩
  have q2 := pX false (decide_eq_false c2)
  rw [if_neg (by rintro (h | h); exact c1 h; exact c2 h)] at hone
  by_cases c3 : s.data.toList.take 2 = [38, 35]
  · have hR := Lib.hid ((congrArg ans (hone.trans (if_pos c3))).trans e10)
    have q3 := p2 true (decide_eq_true c3)
    have H := Lib.hid (H10 (len 2 _ c3 rfl))
    clear hone len H16 H10 HN px pX p2 c1 c2 c3 e16 e10 en
    go_enter Tryz.func178, Tryz.ntmps178
    go_wp2_with (first | (go_at_call 104; refine (hasPrefix_any _ _ _).mono ?_; rintro e w1 ⟨rfl, rfl⟩) | (go_at_call 188; refine H.out.mono ?_; rintro e w2 ⟨rfl, hb⟩))
    go_ret2
    exact ⟨by rw [hR.out]; rfl, hb⟩
  · have hR := Lib.hid ((congrArg ans (hone.trans (if_neg c3))).trans en)
    have q3 := p2 false (decide_eq_false c3)
    have H := Lib.hid HN
    clear hone len H16 H10 HN px pX p2 c1 c2 c3 e16 e10 en
    go_enter Tryz.func178, Tryz.ntmps178
    go_wp2_with (first | (go_at_call 104; refine (hasPrefix_any _ _ _).mono ?_; rintro e w1 ⟨rfl, rfl⟩) | (go_at_call 189; refine H.out.mono ?_; rintro e w2 ⟨rfl, rfl⟩))
    go_ret2
    exact ⟨by rw [hR.out]; rfl, Below.refl _ _⟩
end Go.Proofs.YteefodibpjgicaaGreat

namespace Go.Proofs.YteefodibpjgicaaGreat
open Go.RowKit Go.Maps Go.WideShapes
theorem names_keep {w w' : World} {b B : Nat} (h : Names w b) (hb : Below B w w') (hlt : b < B) : Names w' b := by
  obtain ⟨es, clock, h1, h2⟩ := h
  exact ⟨es, clock, by rw [hb.block b hlt]; exact h1, h2⟩
theorem grown_below {w w' : World} (hb : Below w.heap.size w w') : w.grownBy w' none := ⟨hb.os, hb.tape, hb.output, hb.size, fun k hk _ => hb.block k hk⟩
theorem bldrAt_below {T e : TypeId} {B b : Nat} {p : Value} {bs : List Value} {w w' : World} (h : Lib.BuilderAtF T e B b p bs w) (hb : Below w.heap.size w w') : Lib.BuilderAtF T e B b p bs w' := by
  have hlt := h.lt
  obtain ⟨hB, v, hbk, hown, hne⟩ := h
  refine ⟨hB, v, by rw [hb.block b hlt]; exact hbk, hown.kept (grown_below hb) (by cases v.ownBlock <;> simp), hne⟩
def strSz : Value → Nat
  | .string s => s.size
  | _ => 0
set_option maxHeartbeats 4000000 in
set_option maxRecDepth 100000 in
theorem refsDecode (s : ByteArray) (w : World) (hs : s.size ≤ 1073741824) :
    Calls Tryz.prog 167 #[.string s] w fun e w' => e = .returned (.string ⟨(M2.decode s.data.toList).toArray⟩) ∧ Below w.heap.size w w' := by
  by_cases hc : (38 : UInt8) ∈ s.data.toList
  · have hge : decide (0 ≤ Lib.indexByte s.data.toList 38) = true := by
      refine decide_eq_true ?_
      have h1 := Lib.indexByte_ge s.data.toList 38
      rcases Int.lt_or_le (Lib.indexByte s.data.toList 38) 0 with h2 | h2
      · exfalso
        obtain ⟨k, hk⟩ := List.getElem?_of_mem hc
        exact Lib.indexByte_none (by omega) k hk
      · exact h2
    clear hc
    generalize hD : M2.decode s.data.toList = D
    replace hD := Lib.hid hD
    go_enter Tryz.func167, Tryz.ntmps167
    go_wp2_with fail
    refine (sContains1 s 38 w).mono ?_
    rintro e w0 ⟨rfl, rfl⟩
    rw [hge]
    clear hge
    go_wp2_with fail
    refine (refsNames _).mono ?_
    rintro e w1 ⟨b, rfl, hN, b1⟩
    have hblt := hN.lt
    go_wp2
    go_loopw [0] (fun u0 wr => ∃ (t : ByteArray) (acc : List UInt8), u0 = .string t ∧ t.size ≤ s.size ∧ acc.length ≤ 4 * (s.size - t.size) ∧ Lib.IsBuilderF 120 5 w1.heap.size w1.heap.size (u8s acc) wr ∧ Names wr b ∧ Below w1.heap.size w1 wr ∧ Hid (D = acc ++ M2.decode t.data.toList)) (fun u0 _ => strSz u0)
    case atStart =>
      exact ⟨s, [], rfl, by omega, by simp, Lib.IsBuilderF.of (Lib.fresh_isBuilder 120 5 w1), hN.alloc _, (Below.refl _ w1).alloc (Nat.le_refl _) _, hD.out.symm⟩
    case round =>
      obtain ⟨t, acc, rfl, htl, hal, hI, hNr, hbr, hacc⟩ := hrel
      have htz : t.data.toList.length = t.size := rfl
      have hge := Lib.indexByte_ge t.data.toList 38
      have hno := Lib.indexByte_none (l := t.data.toList) (c := 38)
      have hso := fun o => Lib.indexByte_some (l := t.data.toList) (c := 38) (o := o)
      have hB := hbr.size
      go_wp2_with fail
      refine (sIndexByte t 38 wr).mono ?_
      rintro e w' ⟨rfl, rfl⟩
      rw [show (38 : Int).toNat.toUInt8 = 38 from rfl]
      generalize Lib.indexByte t.data.toList 38 = i at *
      by_cases hi : i < 0
      · have h38 : (38 : UInt8) ∉ t.data.toList := fun hm => by
          obtain ⟨k, hk⟩ := List.getElem?_of_mem hm
          exact hno (by omega) k hk
        have hd := Lib.hid (hacc.out.trans (congrArg (acc ++ ·) (M2.decode_self _ h38)))
        clear hno hso h38 hacc htz hge
        go_wp2_with fail
        refine (bWriteString w1.heap.size w1.heap.size (u8s acc) t _ hI (by rw [u8s_length]; omega) hB).mono ?_
        rintro e w2 ⟨rfl, hI2, b2, k2⟩
        have hI3 : Lib.IsBuilderF 120 5 w1.heap.size w1.heap.size (u8s (acc ++ t.data.toList)) w2 := by rw [u8s_append]; exact Or.inr hI2
        have hz2 := b2.size
        go_wp2_with fail
        refine (bString w1.heap.size w1.heap.size _ w2 hI3 (by omega)).mono ?_
        rintro e w3 ⟨rfl, _, b3, _⟩
        go_wp2
        go_ret
        rw [hd.out]
        exact ⟨rfl, bt b1 ((hbr.trans b2).trans b3)⟩
      · obtain ⟨k, rfl⟩ : ∃ k : Nat, i = k := ⟨i.toNat, by omega⟩
        obtain ⟨hk1, hk2⟩ := hso k rfl
        have hk : k < t.size := (List.getElem?_eq_some_iff.1 hk1).1
        have hpast : M2.decode t.data.toList = t.data.toList.take k ++ M2.decode (t.data.toList.drop k) := by
          conv => lhs; rw [← List.take_append_drop k t.data.toList]
          refine M2.decode_past _ _ (fun hm => ?_)
          obtain ⟨j, hj, hj2⟩ := List.getElem_of_mem hm
          have hj1 : j < k := by rw [List.length_take] at hj; omega
          refine hk2 j hj1 ?_
          rw [← hj2, List.getElem_take, List.getElem?_eq_getElem]
        have hhd : (t.data.toList.drop k).head? = some 38 := by rw [List.head?_drop]; exact hk1
        clear hno hso hge hk1 hk2 hi
        have x0 : (t.extract 0 k).data.toList = t.data.toList.take k := by rw [Lib.extract_data]; simp
        have x1 : (t.extract k t.size).data.toList = t.data.toList.drop k := extract_end t k
        have z0 : (t.extract 0 k).size = k := by rw [ByteArray.size_extract]; omega
        have z1 : (t.extract k t.size).size = t.size - k := by rw [ByteArray.size_extract]; omega
        rw [← x1] at hhd hpast
        rw [← x0] at hpast
        replace hacc := Lib.hid (hacc.out.trans (congrArg (acc ++ ·) hpast))
        replace hhd := Lib.hid hhd
        replace x0 := Lib.hid x0
        have z0 := Lib.hid z0
        have z1 := Lib.hid z1
        have hrest : ∃ (r : Int) (n : Nat), (r = 38 ∧ n = 1 ∧ M2.one (t.extract k t.size).data.toList = none ∨ M2.one (t.extract k t.size).data.toList = some (r, n)) ∧ 0 ≤ r ∧ r ≤ 1114111 ∧ 1 ≤ n ∧ n ≤ t.size - k ∧ M2.decode (t.extract k t.size).data.toList = M1.enc r ++ M2.decode ((t.extract k t.size).data.toList.drop n) := by
          have hlen : (t.extract k t.size).data.toList.length = t.size - k := z1.out
          cases ho : M2.one (t.extract k t.size).data.toList with
          | none =>
            refine ⟨38, 1, Or.inl ⟨rfl, rfl, rfl⟩, by omega, by omega, by omega, by omega, ?_⟩
            have h := hhd.out
            generalize (t.extract k t.size).data.toList = u at *
            cases u with
            | nil => cases h
            | cons c u =>
              simp at h
              subst h
              rw [M2.decode_byte ho, show M1.enc 38 = [38] by decide]
              rfl
          | some p =>
            obtain ⟨r, n⟩ := p
            have hb := M2.one_bd ho
            have hok := hb.2.2.1
            unfold M1.okRune at hok
            exact ⟨r, n, Or.inr rfl, by omega, by omega, by omega, by omega, M2.decode_ref ho⟩
        obtain ⟨r, n, hone, hr0, hr1, hn1, hn2, hdec⟩ := hrest
        have hone := Lib.hid hone
        replace hacc := Lib.hid (hacc.out.trans (congrArg (fun x => acc ++ ((t.extract 0 k).data.toList ++ x)) hdec))
        clear hpast x1 hdec
        rename_i z0' z1' hone'
        clear z0' z1' hone'
        go_wp2_with fail
        refine (bWriteString w1.heap.size w1.heap.size (u8s acc) (t.extract 0 k) _ hI (by rw [u8s_length, z0.out]; omega) hB).mono ?_
        rintro e w2 ⟨rfl, hI2, b2, k2⟩
        have hI3 : Lib.BuilderAtF 120 5 w1.heap.size w1.heap.size (.pointer (some ⟨w1.heap.size, 0, none⟩)) (u8s (acc ++ (t.extract 0 k).data.toList)) w2 := by rw [u8s_append]; exact hI2
        have hN2 := names_keep hNr b2 hblt
        have B2 := hbr.trans b2
        have hz2 := B2.size
        clear hI2 k2 b2
        have hal2 : (acc ++ (t.extract 0 k).data.toList).length ≤ acc.length + k := by
          have e : (t.extract 0 k).data.toList.length = k := z0.out
          rw [List.length_append, e]
          exact Nat.le_refl _
        have htb : (t.extract k t.size).size ≤ 1073741824 := by rw [z1.out]; omega
        have hacc2 : Hid (D = (acc ++ (t.extract 0 k).data.toList ++ M1.enc r) ++ M2.decode ((t.extract k t.size).data.toList.drop n)) := by
          show _ = _
          rw [hacc.out]
          simp
        have hz1 := z1.out
        clear hacc z0 z1 x0
        generalize acc ++ (t.extract 0 k).data.toList = acc2 at *
        go_wp2_with fail
        refine (refsOne' (t.extract k t.size) b w2 hN2 hhd.out htb).mono ?_
        rintro e w3 ⟨rfl, b3⟩
        generalize t.extract k t.size = tb at *
        have hI4 := bldrAt_below hI3 b3
        have hN3 := ownsMap_below hN2 b3
        have B3 := B2.trans (b3.mono hz2)
        have hz3 := B3.size
        have xn : (tb.extract n tb.size).data.toList = tb.data.toList.drop n := extract_end tb n
        have zn : Hid ((tb.extract n tb.size).size = t.size - k - n) := by
          show _ = _
          rw [ByteArray.size_extract]; omega
        rw [← xn] at hacc2
        have hntb : n ≤ tb.size := by omega
        have hel := M2.enc_len_le r
        replace hz1 := Lib.hid hz1
        clear hI3 hN2 B2 hz2 b3 xn
        have fin : ∀ w4, Lib.BuilderAtF 120 5 w1.heap.size w1.heap.size (.pointer (some ⟨w1.heap.size, 0, none⟩)) (u8s acc2 ++ Lib.runeCells r) w4 → Below w1.heap.size w3 w4 →
            ∃ (t' : ByteArray) (acc' : List UInt8), Value.string (tb.extract n tb.size) = .string t' ∧ t'.size ≤ s.size ∧ acc'.length ≤ 4 * (s.size - t'.size) ∧ Lib.IsBuilderF 120 5 w1.heap.size w1.heap.size (u8s acc') w4 ∧ Names w4 b ∧ Below w1.heap.size w1 w4 ∧ Hid (D = acc' ++ M2.decode t'.data.toList) := by
          intro w4 hI5 b4
          refine ⟨_, acc2 ++ M1.enc r, rfl, by rw [zn.out]; omega, by rw [zn.out, List.length_append]; omega, ?_, names_keep hN3 b4 hblt, B3.trans b4, hacc2.out⟩
          rw [u8s_append, show u8s (M1.enc r) = Lib.runeCells r from Lib.byteCells_encodeRune r]
          exact Or.inr hI5
        replace fin := Lib.hid fin
        have hWR := fun (x : Int) (h1 : 0 ≤ x) (h2 : x ≤ 1114111) => bWriteRune w1.heap.size w1.heap.size (u8s acc2) x (by omega) (by omega) w3 (Or.inr hI4) (by rw [u8s_length]; omega) hz3
        replace hWR := Lib.hid hWR
        rcases hone.out with ⟨rfl, rfl, ho⟩ | ho
        · rw [ho, ans_none]
          clear ho hone
          go_wp2_with fail
          refine (hWR.out 38 (by omega) (by omega)).mono ?_
          rintro e w4 ⟨rfl, hI5, b4, k4⟩
          have F := Lib.hid (fin.out w4 hI5 b4)
          go_wp2
          go_roundw
          case rel => exact F.out
          case measure => have hz1' := hz1.out; simp [strSz]; omega
        · rw [ho, ans_some]
          have hn0 : ((n : Int) == 0) = false := by simp; omega
          clear ho hone
          go_wp2_with fail
          refine (hWR.out r hr0 hr1).mono ?_
          rintro e w4 ⟨rfl, hI5, b4, k4⟩
          have F := Lib.hid (fin.out w4 hI5 b4)
          go_wp2
          go_roundw
          case rel => exact F.out
          case measure => have hz1' := hz1.out; simp [strSz]; omega
  · have hge : decide (0 ≤ Lib.indexByte s.data.toList 38) = false := by
      refine decide_eq_false ?_
      rw [M2.indexByte_no _ _ hc]
      omega
    rw [M2.decode_self _ hc]
    clear hc
    go_enter Tryz.func167, Tryz.ntmps167
    go_wp2_with fail
    refine (sContains1 s 38 w).mono ?_
    rintro e w0 ⟨rfl, rfl⟩
    rw [hge]
    clear hge
    go_wp2_with fail
    refine (sClone s _ (by omega)).mono ?_
    rintro e w1 ⟨rfl, b1⟩
    go_wp2
    go_ret
    exact ⟨rfl, b1⟩
set_option maxHeartbeats 4000000 in
set_option maxRecDepth 100000 in
theorem refsEscape (s : ByteArray) (v : Bool) (w : World) (hs : s.size ≤ 1073741824) :
    Calls Tryz.prog 119 #[.string s, .bool v] w fun e w' => e = .returned (.string ⟨(M2.escape v s.data.toList).toArray⟩) ∧ Below w.heap.size w w' := by
  go_enter Tryz.func119, Tryz.ntmps119
  go_wp2
  go_loopw [10] (fun i wr => ∃ k : Nat, k ≤ s.size ∧ i = .int .i64 k ∧ Lib.IsBuilderF 120 5 w.heap.size w.heap.size (u8s (M2.escape v (s.data.toList.take k))) wr ∧ Below w.heap.size w wr) (fun i _ => s.size - (intOf i).toNat)
  case atStart =>
    exact ⟨0, by omega, rfl, Lib.IsBuilderF.of (Lib.fresh_isBuilder 120 5 w), (Below.refl _ w).alloc (Nat.le_refl _) _⟩
  case round =>
    obtain ⟨k, hk, rfl, hI, hbw⟩ := hrel
    have hle := M2.escape_len v (s.data.toList.take k)
    have hlt1 : (s.data.toList.take k).length ≤ k := List.length_take_le _ _
    have hB := hbw.size
    by_cases hlt : k < s.size
    · have htk : M2.escape v (s.data.toList.take (k + 1)) = M2.escape v (s.data.toList.take k) ++ M2.esc v s[k] := by
        rw [show s.data.toList.take (k + 1) = s.data.toList.take k ++ [s[k]] from List.take_succ_eq_append_getElem (l := s.data.toList) hlt, M2.escape_append]
        simp [M2.escape]
      have fin : ∀ (add : List UInt8) w2, M2.esc v s[k] = add → Lib.BuilderAtF 120 5 w.heap.size w.heap.size (.pointer (some ⟨w.heap.size, 0, none⟩)) (u8s (M2.escape v (s.data.toList.take k)) ++ u8s add) w2 → Below w.heap.size wr w2 →
          ∃ j : Nat, j ≤ s.size ∧ Value.int .i64 ((k : Int) + 1) = .int .i64 j ∧ Lib.IsBuilderF 120 5 w.heap.size w.heap.size (u8s (M2.escape v (s.data.toList.take j))) w2 ∧ Below w.heap.size w w2 := by
        intro add w2 h1 h2 h3
        refine ⟨k + 1, by omega, by go_num, ?_, hbw.trans h3⟩
        rw [htk, u8s_append, h1]
        exact Or.inr h2
      replace fin := Lib.hid fin
      have hWS := fun (x : List UInt8) (h : x.length ≤ 6) => bWriteString w.heap.size w.heap.size (u8s (M2.escape v (s.data.toList.take k))) ⟨x.toArray⟩ wr hI (by rw [u8s_length]; show _ + x.length ≤ _; omega) hB
      have hWB := fun (x : Int) => bWriteByte w.heap.size w.heap.size (u8s (M2.escape v (s.data.toList.take k))) x wr hI (by rw [u8s_length]; omega) hB
      replace hWS := Lib.hid hWS
      replace hWB := Lib.hid hWB
      clear htk hI hle hlt1
      by_cases h38 : s[k] = 38
      · have F := Lib.hid (fin.out [38, 97, 109, 112, 59] · (by rw [h38]; rfl))
        clear fin hWB
        go_wp2_with fail
        refine (hWS.out [38, 97, 109, 112, 59] (by decide)).mono ?_
        rintro e w2 ⟨rfl, hI2, b2, k2⟩
        replace F := Lib.hid (F.out w2 hI2 b2)
        go_wp2
        go_roundw
        case rel => exact F.out
        case measure => simp [intOf]; omega
      have h38b : ((s[k].toNat : Int) == 38) = false := by simp; intro e; exact h38 (UInt8.toNat_inj.1 (by simpa using (by omega : s[k].toNat = 38)))
      by_cases h60 : s[k] = 60
      · have F := Lib.hid (fin.out [38, 108, 116, 59] · (by rw [h60]; rfl))
        clear fin hWB h38
        go_wp2_with fail
        refine (hWS.out [38, 108, 116, 59] (by decide)).mono ?_
        rintro e w2 ⟨rfl, hI2, b2, k2⟩
        replace F := Lib.hid (F.out w2 hI2 b2)
        go_wp2
        go_roundw
        case rel => exact F.out
        case measure => simp [intOf]; omega
      have h60b : ((s[k].toNat : Int) == 60) = false := by simp; intro e; exact h60 (UInt8.toNat_inj.1 (by simpa using (by omega : s[k].toNat = 60)))
      by_cases h62 : s[k] = 62
      · have F := Lib.hid (fin.out [38, 103, 116, 59] · (by rw [h62]; rfl))
        clear fin hWB h38 h60
        go_wp2_with fail
        refine (hWS.out [38, 103, 116, 59] (by decide)).mono ?_
        rintro e w2 ⟨rfl, hI2, b2, k2⟩
        replace F := Lib.hid (F.out w2 hI2 b2)
        go_wp2
        go_roundw
        case rel => exact F.out
        case measure => simp [intOf]; omega
      have h62b : ((s[k].toNat : Int) == 62) = false := by simp; intro e; exact h62 (UInt8.toNat_inj.1 (by simpa using (by omega : s[k].toNat = 62)))
      by_cases h34 : s[k] = 34
      · cases v
        · have F := Lib.hid (fin.out [34] · (by rw [h34]; rfl))
          clear fin hWS h38 h60 h62
          go_wp2_with fail
          refine (hWB.out 34).mono ?_
          rintro e w2 ⟨rfl, hI2, b2, k2⟩
          replace F := Lib.hid (F.out w2 hI2 b2)
          go_wp2
          go_roundw
          case rel => exact F.out
          case measure => simp [intOf]; omega
        · have F := Lib.hid (fin.out [38, 113, 117, 111, 116, 59] · (by rw [h34]; rfl))
          clear fin hWB h38 h60 h62
          go_wp2_with fail
          refine (hWS.out [38, 113, 117, 111, 116, 59] (by decide)).mono ?_
          rintro e w2 ⟨rfl, hI2, b2, k2⟩
          replace F := Lib.hid (F.out w2 hI2 b2)
          go_wp2
          go_roundw
          case rel => exact F.out
          case measure => simp [intOf]; omega
      have h34b : ((s[k].toNat : Int) == 34) = false := by simp; intro e; exact h34 (UInt8.toNat_inj.1 (by simpa using (by omega : s[k].toNat = 34)))
      have F := Lib.hid (fin.out [s[k]] · (by rw [M2.esc, if_neg h38, if_neg h60, if_neg h62, if_neg (fun e => h34 e.1)]))
      clear fin hWS h38 h60 h62 h34
      go_wp2_with fail
      refine (hWB.out (s[k].toNat : Int)).mono ?_
      rintro e w2 ⟨rfl, hI2, b2, k2⟩
      replace F := Lib.hid (F.out w2 hI2 b2)
      go_wp2
      go_roundw
      case rel => exact F.out
      case measure => simp [intOf]; omega
    · go_wp2_with fail
      refine (bString w.heap.size w.heap.size _ _ hI hB).mono ?_
      rintro e W1 ⟨rfl, _, b1, _⟩
      go_wp2
      go_ret
      rw [List.take_of_length_le (show s.data.toList.length ≤ k from by have : s.data.toList.length = s.size := rfl; omega)]
      exact ⟨rfl, hbw.trans b1⟩
end Go.Proofs.YteefodibpjgicaaGreat

namespace Go.Proofs.YteefodibpjgicaaGreat
open Go.RowKit
def txtN (l : List Nd) : Nat := (l.map fun x => x.text.size).sum
theorem txtN_cons (x : Nd) (l : List Nd) : txtN (x :: l) = x.text.size + txtN l := by simp [txtN]
theorem txtN_append (a b : List Nd) : txtN (a ++ b) = txtN a + txtN b := by simp [txtN]
theorem txtN_mem {l : List Nd} {x : Nd} (h : x ∈ l) : x.text.size ≤ txtN l := by
  induction l with
  | nil => cases h
  | cons y r ih =>
    rw [txtN_cons]
    rcases List.mem_cons.1 h with rfl | h
    · omega
    · have := ih h; omega
theorem txtV_map (L : List NV) : txtV L = txtN (L.map NV.x) := by simp [txtV, txtN, Function.comp_def]
end Go.Proofs.YteefodibpjgicaaGreat

namespace Go.Proofs.YteefodibpjgicaaGreat
open Go.RowKit
abbrev Few6 (l : List Nd) : Prop := M3.weight l ≤ 1000000
theorem set5 (done Z : List Value) (i : Nat) (c0 c1 c2 c3 c4 z0 z1 z2 z3 z4 : Value) (hd : done.length = i * 5) :
    (((((done ++ z0 :: z1 :: z2 :: z3 :: z4 :: Z).set (i * 5) c0).set (i * 5 + 1) c1).set (i * 5 + 2) c2).set (i * 5 + 3) c3).set (i * 5 + 4) c4 = done ++ [c0, c1, c2, c3, c4] ++ Z := by
  rw [← hd]
  simp
theorem own_cell {w : World} {B : Nat} {e : TypeId} {k n g cap : Nat} {xs : List Value} (h : w.ownsRow B e k (.slice (some ⟨g, 0, none⟩) n cap) n xs) (j : Nat) (u : Value) (hu : xs[j]? = some u) : w.cell? ⟨g, j, none⟩ = some u ∧ w.frozen? ⟨g, j, none⟩ = false := by
  refine ⟨by have := h.cells (g := g) rfl j u hu; rwa [add_plain', Nat.zero_add] at this, ?_⟩
  rcases h.2 with ⟨h', _⟩ | ⟨g', cap', cur, h', _, hg, _⟩
  · cases h'
  · cases h'
    simp [World.frozen?, hg]
def put5 (w : World) (g i : Nat) (c0 c1 c2 c3 c4 : Value) : World := ((((w.setCell ⟨g, i * 5, none⟩ c0).setCell ⟨g, i * 5 + 1, none⟩ c1).setCell ⟨g, i * 5 + 2, none⟩ c2).setCell ⟨g, i * 5 + 3, none⟩ c3).setCell ⟨g, i * 5 + 4, none⟩ c4
theorem put5_own {w : World} {B : Nat} {e : TypeId} {n g cap i : Nat} {done Z : List Value} {z0 z1 z2 z3 z4 : Value} (h : w.ownsRow B e 5 (.slice (some ⟨g, 0, none⟩) n cap) n (done ++ z0 :: z1 :: z2 :: z3 :: z4 :: Z)) (hd : done.length = i * 5) (c0 c1 c2 c3 c4 : Value) :
    (put5 w g i c0 c1 c2 c3 c4).ownsRow B e 5 (.slice (some ⟨g, 0, none⟩) n cap) n (done ++ [c0, c1, c2, c3, c4] ++ Z) := by
  have := ((((h.stored (i * 5) c0).1.stored (i * 5 + 1) c1).1.stored (i * 5 + 2) c2).1.stored (i * 5 + 3) c3).1.stored (i * 5 + 4) c4
  rw [set5 _ _ _ _ _ _ _ _ _ _ _ _ _ hd] at this
  exact this.1
theorem put5_far (w : World) (g i : Nat) (c0 c1 c2 c3 c4 : Value) (b : Nat) (h : b ≠ g) : (put5 w g i c0 c1 c2 c3 c4).heap[b]? = w.heap[b]? := by
  unfold put5
  rw [Below.heap_setCell _ _ _ _ (by simpa using h), Below.heap_setCell _ _ _ _ (by simpa using h), Below.heap_setCell _ _ _ _ (by simpa using h), Below.heap_setCell _ _ _ _ (by simpa using h), Below.heap_setCell _ _ _ _ (by simpa using h)]
theorem put5_size (w : World) (g i : Nat) (c0 c1 c2 c3 c4 : Value) : (put5 w g i c0 c1 c2 c3 c4).heap.size = w.heap.size := by simp [put5, World.setCell]
theorem put5_below {B : Nat} {a w : World} (h : Below B a w) (g i : Nat) (c0 c1 c2 c3 c4 : Value) (hg : B ≤ g) : Below B a (put5 w g i c0 c1 c2 c3 c4) :=
  ((((h.setCell (p := ⟨g, i * 5, none⟩) hg c0).setCell (p := ⟨g, i * 5 + 1, none⟩) hg c1).setCell (p := ⟨g, i * 5 + 2, none⟩) hg c2).setCell (p := ⟨g, i * 5 + 3, none⟩) hg c3).setCell (p := ⟨g, i * 5 + 4, none⟩) hg c4
theorem weight_le {x : Nd} {l : List Nd} (h : x ∈ l) : 1 + x.attrs.length + M3.weight x.kids ≤ M3.weight l := by
  induction l with
  | nil => cases h
  | cons y r ih =>
    rw [M3.weight_cons]
    rcases List.mem_cons.1 h with rfl | h
    · omega
    · have := ih h; omega
set_option maxHeartbeats 4000000 in
set_option maxRecDepth 100000 in
theorem domClone (wt : Nat) : ∀ (S : Nat → Prop) (v : Value) (l : List Nd) (w : World), M3.weight l < wt → Few6 l → (∀ b, S b → b < w.heap.size) → RepN S w v l →
    Calls Tryz.prog 211 #[v] w (FreshPost l w) := by
  induction wt with
  | zero => intro S v l w h; omega
  | succ wt ih =>
    intro S v l w hwt hf hS hr
    have hll := M3.length_le_weight l
    obtain ⟨a, cap, rfl⟩ := hr.slice
    obtain ⟨_, hlc, hcm⟩ := hr.len
    by_cases h0 : l.length = 0
    · obtain rfl : l = [] := List.eq_nil_of_length_eq_zero h0
      go_enter Tryz.func211, Tryz.ntmps211
      go_wp2
      go_ret
      exact ⟨_, rfl, ⟨[], [], World.ownsRow_nil _ _ _ _, OwnC.nil _, Span.nil _ _⟩, Below.refl _ _⟩
    have hzb : ((l.length : Int) == 0) = false := by simpa using h0
    obtain ⟨i0, hi0, hz0, hz1, hz2⟩ := info_parts infoN
    obtain ⟨W0, hmk, hownz, hg0⟩ := run_make_full (P := Tryz.prog) (w := w) w.heap.size 25 41 i0 _ 5 Tryz.underlying25 hi0 hz0 hz1 .i64 .i64 l.length (by rw [hz2]; omega) (by unfold maxLen; omega) (Nat.le_refl _)
    have hB0 : Below w.heap.size w W0 := ⟨hg0.os, hg0.tape, hg0.output, hg0.size, fun k hk => hg0.block k hk (by simp)⟩
    have hlz : (madeCells (Value.agg #[.int .i64 0, .string ⟨#[]⟩, .slice none 0 0, .string ⟨#[]⟩, .slice none 0 0]).cells (l.length * 5)).toList.length = l.length * 5 := hownz.1
    generalize (madeCells (Value.agg #[.int .i64 0, .string ⟨#[]⟩, .slice none 0 0, .string ⟨#[]⟩, .slice none 0 0]).cells (l.length * 5)).toList = Z0 at *
    clear hg0 h0
    replace hlz := Lib.hid hlz
    go_enter Tryz.func211, Tryz.ntmps211
    go_wp2
    go_loopw [14] (fun u14 wr => ∃ (i : Nat) (done Z : List Value) (F : List Nat), i ≤ l.length ∧ u14 = .int .i64 (i : Int) ∧ done.length = i * 5 ∧ Z.length = (l.length - i) * 5 ∧ wr.ownsRow w.heap.size 41 5 (.slice (some ⟨w.heap.size, 0, none⟩) l.length l.length) l.length (done ++ Z) ∧ OwnC wr done (l.take i) F ∧ Span (w.heap.size + 1) wr.heap.size F ∧ Below w.heap.size w wr) (fun u14 _ => l.length - (intOf u14).toNat)
    case atStart => exact ⟨0, [], Z0, [], by omega, rfl, rfl, hlz.out, hownz, by simpa using OwnC.nil _, Span.nil _ _, hB0⟩
    case round =>
      obtain ⟨i, done, Z, F, hi, rfl, hd, hZ, hown, hoc, hsp, hb⟩ := hrel
      have hz := hb.size
      have hgl := (hown.lt w.heap.size rfl).2
      by_cases hlt : i < l.length
      · obtain ⟨b, off, va, vk, rfl, hSb, c0, c1, c2, c3, c4, hrv⟩ := (hr.below hS hb).at_ i hlt
        have hbl := hS b hSb
        have htk : l.take (i + 1) = l.take i ++ [l[i]] := List.take_succ_eq_append_getElem hlt
        have hwx := weight_le (List.getElem_mem hlt)
        generalize l[i] = x at *
        obtain ⟨hat, hkd⟩ := hrv
        obtain ⟨a1, cap1, rfl⟩ := hat.slice
        obtain ⟨a2, cap2, rfl⟩ := hkd.slice
        obtain ⟨z0, z1, z2, z3, z4, Z', rfl⟩ : ∃ z0 z1 z2 z3 z4 Z', Z = z0 :: z1 :: z2 :: z3 :: z4 :: Z' := by
          match Z, hZ with
          | z0 :: z1 :: z2 :: z3 :: z4 :: Z', _ => exact ⟨_, _, _, _, _, _, rfl⟩
          | [], h | [_], h | [_, _], h | [_, _, _], h | [_, _, _, _], h => simp at h; omega
        have hbx := (Below.refl wr.heap.size wr).alloc (Nat.le_refl _) (.cells (x.cells (.slice a1 x.attrs.length cap1) (.slice a2 x.kids.length cap2)).toArray 41)
        have hcl := fun W (hbb : Below w.heap.size w W) => domClone1 S x (.slice a1 x.attrs.length cap1) (.slice a2 x.kids.length cap2) W (fun b h => by have := hS b h; have := hbb.size; omega)
        have hrx : ∀ W, Below wr.heap.size wr W → RepV S W x (.slice a1 x.attrs.length cap1) (.slice a2 x.kids.length cap2) := fun W hW => RepV.below (w := wr) (B := wr.heap.size) ⟨hat, hkd⟩ (fun b h => by have := hS b h; omega) hW
        have hihx := fun W h1 h2 => ih S (.slice a2 x.kids.length cap2) x.kids W (by omega) (by show M3.weight x.kids ≤ 1000000; unfold Few6 at hf; omega) h1 h2
        have hcl2 := hcl (wr.alloc (.cells (x.cells (.slice a1 x.attrs.length cap1) (.slice a2 x.kids.length cap2)).toArray 41)) (hb.alloc hz _) (hrx _ hbx) (by unfold Few6 at hf; omega) hihx
        have hkd0 : Hid True := trivial
        clear hcl hrx hihx
        replace hcl2 := Lib.hid hcl2
        replace htk := Lib.hid htk
        replace hd := Lib.hid hd
        replace hZ := Lib.hid hZ
        replace hoc := Lib.hid hoc
        replace hown := Lib.hid hown
        go_wp2_with (fail)
        refine hcl2.out.mono ?_
        rintro e w2 ⟨va2, vk2, zs2, F2, rfl, oa, ok, hoc2, hsp2, hb2⟩
        obtain ⟨a3, cap3, rfl⟩ := own_slice oa
        obtain ⟨a4, cap4, rfl⟩ := own_slice ok
        have hbw2 : Below wr.heap.size wr w2 := hbx.trans (hb2.mono (by simp))
        have own2 := own_keep hown.out (w' := w2) (fun g hg => by
          have h1 : w.heap.size = g := by simpa [Value.ownBlock] using hg
          rw [← h1]; exact hbw2.block _ hgl)
        have hzz : ∀ j u, ([z0, z1, z2, z3, z4] : List Value)[j]? = some u → (done ++ z0 :: z1 :: z2 :: z3 :: z4 :: Z')[i * 5 + j]? = some u := by
          intro j u hu
          rw [List.getElem?_append_right (by have := hd.out; omega), show i * 5 + j - done.length = j by have := hd.out; omega]
          have := (List.getElem?_eq_some_iff.1 hu).1
          simp at this
          match j, this with
          | 0, _ | 1, _ | 2, _ | 3, _ | 4, _ => exact hu
        obtain ⟨y0, g0⟩ := own_cell own2 _ _ (hzz 0 _ rfl)
        obtain ⟨y1, g1⟩ := own_cell own2 _ _ (hzz 1 _ rfl)
        obtain ⟨y2, g2⟩ := own_cell own2 _ _ (hzz 2 _ rfl)
        obtain ⟨y3, g3⟩ := own_cell own2 _ _ (hzz 3 _ rfl)
        obtain ⟨y4, g4⟩ := own_cell own2 _ _ (hzz 4 _ rfl)
        simp only [Nat.add_zero] at y0 g0
        have hbw : Below w.heap.size w w2 := hb.trans (hbw2.mono hz)
        have hzw := hbw2.size
        replace hzz := Lib.hid hzz
        replace own2 := Lib.hid own2
        replace oa := Lib.hid oa
        replace ok := Lib.hid ok
        replace hoc2 := Lib.hid hoc2
        clear hcl2 c0 c1 c2 c3 c4
        go_wp2_with (fail)
        go_roundw
        case rel =>
          have hp := put5_own own2.out hd.out (.int .i64 x.kind) (.string x.name) (.slice a3 x.attrs.length cap3) (.string x.text) (.slice a4 x.kids.length cap4)
          have hfar := put5_far w2 w.heap.size i (.int .i64 x.kind) (.string x.name) (.slice a3 x.attrs.length cap3) (.string x.text) (.slice a4 x.kids.length cap4)
          have hsz5 := put5_size w2 w.heap.size i (.int .i64 x.kind) (.string x.name) (.slice a3 x.attrs.length cap3) (.string x.text) (.slice a4 x.kids.length cap4)
          have hbl5 := put5_below hbw w.heap.size i (.int .i64 x.kind) (.string x.name) (.slice a3 x.attrs.length cap3) (.string x.text) (.slice a4 x.kids.length cap4) (Nat.le_refl _)
          have hsW : wr.heap.size + 1 = (wr.alloc (.cells (x.cells (.slice a1 x.attrs.length cap1) (.slice a2 x.kids.length cap2)).toArray 41)).heap.size := by simp
          rw [← hsW] at hsp2
          refine ⟨i + 1, done ++ [.int .i64 x.kind, .string x.name, .slice a3 x.attrs.length cap3, .string x.text, .slice a4 x.kids.length cap4], Z', F ++ ((Value.slice a3 x.attrs.length cap3).ownBlock.toList ++ ((Value.slice a4 x.kids.length cap4).ownBlock.toList ++ F2)), by omega, by go_num, by simp; have := hd.out; omega, by have := hZ.out; simp at this; omega, ?_, ?_, ?_, hbl5⟩
          · exact hp
          · rw [htk.out]
            have k1 : OwnC (put5 w2 w.heap.size i (.int .i64 x.kind) (.string x.name) (.slice a3 x.attrs.length cap3) (.string x.text) (.slice a4 x.kids.length cap4)) done (l.take i) F :=
              OwnC.keep _ _ _ (fun b hb' => (hfar b (by have := hsp.2 b hb'; omega)).trans (hbw2.block b (hsp.2 b hb').2)) hoc.out
            refine OwnC.append ?_ _ _ _ k1
            have k2 := own_keep oa.out (w' := put5 w2 w.heap.size i (.int .i64 x.kind) (.string x.name) (.slice a3 x.attrs.length cap3) (.string x.text) (.slice a4 x.kids.length cap4)) (fun g hg => hfar g (by have := (oa.out.lt g hg).1; omega))
            have k3 := own_keep ok.out (w' := put5 w2 w.heap.size i (.int .i64 x.kind) (.string x.name) (.slice a3 x.attrs.length cap3) (.string x.text) (.slice a4 x.kids.length cap4)) (fun g hg => hfar g (by have := (ok.out.lt g hg).1; omega))
            have k4 : OwnC (put5 w2 w.heap.size i (.int .i64 x.kind) (.string x.name) (.slice a3 x.attrs.length cap3) (.string x.text) (.slice a4 x.kids.length cap4)) zs2 x.kids F2 := OwnC.keep _ _ _ (fun b hb' => hfar b (by have := hsp2.2 b (by simp [hb']); omega)) hoc2.out
            exact OwnC.cons_iff.2 ⟨_, _, zs2, [], F2, [], rfl, own_base k2 (fun g _ => Nat.zero_le _), own_base k3 (fun g _ => Nat.zero_le _), by simp, k4, OwnC.nil _⟩
          · show Span _ (put5 w2 w.heap.size i (.int .i64 x.kind) (.string x.name) (.slice a3 x.attrs.length cap3) (.string x.text) (.slice a4 x.kids.length cap4)).heap.size _
            rw [hsz5]
            exact Span.append (mid := wr.heap.size) hsp (hsp2.mono (by omega) (Nat.le_refl _)) (by omega) (by omega)
        case measure => simp [intOf]; omega
      · obtain rfl : i = l.length := by omega
        have hZ0 : Z = [] := List.eq_nil_of_length_eq_zero (by rw [hZ]; simp)
        subst hZ0
        rw [List.append_nil] at hown
        rw [List.take_length] at hoc
        replace hown := Lib.hid hown
        replace hoc := Lib.hid hoc
        clear hd hZ
        go_wp2
        go_ret
        refine ⟨_, rfl, ⟨done, F, hown.out, hoc.out, ?_⟩, hb⟩
        exact Span.append (mid := w.heap.size + 1) ⟨by simp [Value.ownBlock], fun b hb' => by simp [Value.ownBlock] at hb'; omega⟩ hsp (by omega) (by omega)
end Go.Proofs.YteefodibpjgicaaGreat

namespace Go.Proofs.YteefodibpjgicaaGreat
open Go.RowKit
theorem Fresh.nil (w : World) (B : Nat) : Fresh w B (.slice none 0 0) [] := ⟨[], [], World.ownsRow_nil _ _ _ _, OwnC.nil _, Span.nil _ _⟩
theorem Fresh.base {w : World} {B B' : Nat} {v : Value} {l : List Nd} (h : Fresh w B v l) (hb : B' ≤ B) : Fresh w B' v l := by
  obtain ⟨zs, F, h1, h2, h3⟩ := h
  exact ⟨zs, F, own_base h1 (fun g hg => by have := (h1.lt g hg).1; omega), h2, h3.mono hb (Nat.le_refl _)⟩
theorem Fresh.keep {w w' : World} {B : Nat} {v : Value} {l : List Nd} (h : Fresh w B v l) (hk : ∀ b, B ≤ b → b < w.heap.size → w'.heap[b]? = w.heap[b]?) (hz : w.heap.size ≤ w'.heap.size) : Fresh w' B v l := by
  obtain ⟨zs, F, h1, h2, h3⟩ := h
  exact ⟨zs, F, own_keep h1 (fun g hg => hk g (h1.lt g hg).1 (h1.lt g hg).2), OwnC.keep _ _ _ (fun b hb => hk b (h3.2 b (by simp [hb])).1 (h3.2 b (by simp [hb])).2) h2, h3.mono (Nat.le_refl _) hz⟩
theorem Fresh.snoc {W w5 : World} {B mid g n cap : Nat} {u : Value} {A : List Nd} {zs : List Value} {F : List Nat} {x : Nd} {va vk : Value} {zs2 : List Value} {F2 : List Nat} (hn : n = A.length + 1)
    (hown5 : w5.ownsRow B 41 5 (.slice (some ⟨g, 0, none⟩) n cap) n (zs ++ x.cells va vk)) (hgrow : W.grownBy w5 u.ownBlock) (hat : u.ownBlock = some g ∨ W.heap.size ≤ g)
    (hA : OwnC W zs A F) (hsp : Span B mid (u.ownBlock.toList ++ F))
    (ha : W.ownsRow 0 43 2 va x.attrs.length (cellsA x.attrs)) (hk : W.ownsRow 0 41 5 vk x.kids.length zs2) (hc : OwnC W zs2 x.kids F2) (hsp2 : Span mid W.heap.size (va.ownBlock.toList ++ (vk.ownBlock.toList ++ F2))) (hBm : B ≤ mid) (hm : mid ≤ W.heap.size) :
    Fresh w5 B (.slice (some ⟨g, 0, none⟩) n cap) (A ++ [x]) := by
  subst hn
  have hall : Span B W.heap.size (u.ownBlock.toList ++ F ++ (va.ownBlock.toList ++ (vk.ownBlock.toList ++ F2))) := Span.append hsp hsp2 hBm hm
  have hg5 := (hown5.lt g rfl)
  have hkeep : ∀ b ∈ F ++ (va.ownBlock.toList ++ (vk.ownBlock.toList ++ F2)), w5.heap[b]? = W.heap[b]? := by
    intro b hb
    refine hgrow.block b (hall.2 b (by rcases List.mem_append.1 hb with h | h <;> simp [h])).2 (fun e => ?_)
    have hnd := hall.1
    rw [List.append_assoc] at hnd
    have := (List.nodup_append.1 hnd).2.2 b (by rw [← e]; simp) b hb
    exact this rfl
  have hgn : g ∉ F ++ (va.ownBlock.toList ++ (vk.ownBlock.toList ++ F2)) := by
    intro hb
    rcases hat with h | h
    · have hnd := hall.1
      rw [List.append_assoc] at hnd
      exact (List.nodup_append.1 hnd).2.2 g (by rw [h]; simp) g hb rfl
    · have := (hall.2 g (by rcases List.mem_append.1 hb with h | h <;> simp [h])).2
      omega
  refine ⟨zs ++ x.cells va vk, F ++ (va.ownBlock.toList ++ (vk.ownBlock.toList ++ F2)), by simpa using hown5, ?_, ?_⟩
  · refine OwnC.append ?_ _ _ _ (OwnC.keep _ _ _ (fun b hb => hkeep b (by simp [hb])) hA)
    exact OwnC.cons_iff.2 ⟨va, vk, zs2, [], F2, [], by simp, own_keep ha (fun b hb => hkeep b (by simp [hb])), own_keep hk (fun b hb => hkeep b (by simp [hb])), by simp, OwnC.keep _ _ _ (fun b hb => hkeep b (by simp [hb])) hc, OwnC.nil _⟩
  · have hs := hgrow.size
    refine ⟨?_, fun b hb => ?_⟩
    · show (g :: (F ++ (va.ownBlock.toList ++ (vk.ownBlock.toList ++ F2)))).Nodup
      refine List.nodup_cons.2 ⟨hgn, ?_⟩
      have hnd := hall.1
      rw [List.append_assoc] at hnd
      exact (List.nodup_append.1 hnd).2.1
    · rcases List.mem_append.1 hb with h | h
      · have : b = g := by simpa [Value.ownBlock] using h
        subst this
        exact hg5
      · have := hall.2 b (by rcases List.mem_append.1 h with h | h <;> simp [h])
        omega
end Go.Proofs.YteefodibpjgicaaGreat
