/- Texts joined: Cut. -/
import Derived.Deep.RegionHeld3
import Derived.Deep.AppendLies
import Derived.Test.YteefodibpjgicaaGreatA15
namespace Go.Proofs.YteefodibpjgicaaGreat
open Go.RowKit
theorem infoA : (Tryz.prog.info? 43).map (fun i => (i.zero,i.size,i.bytes)) = some (some (.agg #[.string ⟨#[]⟩,.string ⟨#[]⟩]),2,32):=by kernel_rfl
theorem infoN : (Tryz.prog.info? 41).map (fun i => (i.zero,i.size,i.bytes)) = some (some (.agg #[.int .i64 0,.string ⟨#[]⟩,.slice none 0 0,.string ⟨#[]⟩,.slice none 0 0]),5,88):=by kernel_rfl
set_option maxHeartbeats 1000000 in
theorem ref03few (s : ByteArray) (w : World) (hs : s.size ≤ 9223372036854775807) : Calls Tryz.prog 46 #[.string s] w fun e w' => e = .returned (.string (M3.few s)) ∧ w = w':=by
  unfold M3.few
  by_cases h : 30 < s.size
  · rw [if_pos h]
    go_enter Tryz.func46,Tryz.ntmps46
    go_wp2
    go_ret
    exact ⟨rfl,rfl⟩
  · rw [if_neg h]
    go_enter Tryz.func46,Tryz.ntmps46
    go_wp2
    go_ret
    exact ⟨rfl,rfl⟩
def SzN : List Nd → Prop
  | [] => True
  | .mk _ n a t ks :: r => (n.size ≤ 9223372036854775807 ∧ t.size ≤ 9223372036854775807 ∧ ∀ x ∈ a,x.name.size ≤ 9223372036854775807 ∧ x.value.size ≤ 9223372036854775807) ∧ SzN ks ∧ SzN r
termination_by l => SizeOf.sizeOf l
def Sz1 (x : Nd) : Prop:=x.name.size ≤ 9223372036854775807 ∧ x.text.size ≤ 9223372036854775807 ∧ ∀ a ∈ x.attrs,a.name.size ≤ 9223372036854775807 ∧ a.value.size ≤ 9223372036854775807
theorem szN_cons {x : Nd} {r : List Nd} : SzN (x :: r) ↔ Sz1 x ∧ SzN x.kids ∧ SzN r:=by cases x; rw [SzN]; rfl
theorem szN_mem {x : Nd} {l : List Nd} (h : SzN l) (hx : x ∈ l) : Sz1 x ∧ SzN x.kids:=by
  induction l with
  | nil => cases hx
  | cons y r ih =>
    obtain ⟨h1,h2,h3⟩:=szN_cons.1 h
    rcases List.mem_cons.1 hx with rfl | hx
    · exact ⟨h1,h2⟩
    · exact ih h3 hx
def Made (w' : World) (B : Nat) (v : Value) (l : List Nd) : Prop:=∃ zs,w'.ownsRow B 41 5 v l.length zs ∧ RepC (fun b => B ≤ b ∧ b < w'.heap.size ∧ v.ownBlock ≠ some b) w' zs l
theorem Made.rep {w' : World} {B : Nat} {v : Value} {l : List Nd} (h : Made w' B v l) : RepN (fun b => B ≤ b ∧ b < w'.heap.size) w' v l:=by
  obtain ⟨zs,h1,h2⟩:=h
  exact ⟨zs,Row.own h1 (fun g hg => h1.lt g hg),RepC.mono (fun b hb => ⟨hb.1,hb.2.1⟩) _ _ h2⟩
def CutPost (l : List Nd) (m : Nat) (w : World) (e : Ending) (w' : World) : Prop:=∃ v',e = .returned (.tuple #[v',.int .i64 ((M3.cut l m).2 : Int)]) ∧ Made w' w.heap.size v' (M3.cut l m).1 ∧ Below w.heap.size w w'
theorem Made.snoc {W w5 : World} {B g : Nat} {u : Value} {A : List Nd} {zs : List Value} {x : Nd} {va vk : Value} {cap n : Nat} {SA SX : Nat → Prop} (hn : n = A.length + 1)
    (hown5 : w5.ownsRow B 41 5 (.slice (some ⟨g,0,none⟩) n cap) n (zs ++ x.cells va vk)) (hgrow : W.grownBy w5 u.ownBlock) (hat : u.ownBlock = some g ∨ W.heap.size ≤ g)
    (hA : RepC SA W zs A) (hSA : ∀ b,SA b → B ≤ b ∧ b < W.heap.size ∧ u.ownBlock ≠ some b)
    (hx : RepV SX W x va vk) (hSX : ∀ b,SX b → B ≤ b ∧ b < W.heap.size ∧ u.ownBlock ≠ some b) : Made w5 B (.slice (some ⟨g,0,none⟩) n cap) (A ++ [x]):=by
  subst hn
  have hk : ∀ b,(B ≤ b ∧ b < W.heap.size ∧ u.ownBlock ≠ some b) → w5.heap[b]? = W.heap[b]?:=fun b h => hgrow.block b h.2.1 (fun e => h.2.2 e.symm)
  have hm : ∀ b,(B ≤ b ∧ b < W.heap.size ∧ u.ownBlock ≠ some b) → B ≤ b ∧ b < w5.heap.size ∧ (Value.slice (some ⟨g,0,none⟩) (A.length + 1) cap).ownBlock ≠ some b:=fun b h => ⟨h.1,Nat.lt_of_lt_of_le h.2.1 hgrow.size,fun e => by
    simp [Value.ownBlock] at e
    subst e
    rcases hat with h1 | h1
    · exact h.2.2 h1
    · omega⟩
  refine ⟨zs ++ x.cells va vk,by simpa using hown5,RepC.append (RepC.single ((hx.keep fun b h => hk b (hSX b h)).mono fun b h => hm b (hSX b h))) _ _ ?_⟩
  exact RepC.mono (fun b h => hm b (hSA b h)) _ _ (RepC.keep (fun b h => hk b (hSA b h)) _ _ hA)
theorem own_slice {w : World} {B : Nat} {e : TypeId} {k n : Nat} {v : Value} {xs : List Value} (h : w.ownsRow B e k v n xs) : ∃ a c,v = .slice a n c:=by
  rcases h.2 with ⟨rfl,rfl⟩ | ⟨g,cap,_,rfl,_⟩
  · exact ⟨_,_,rfl⟩
  · exact ⟨_,_,rfl⟩
theorem own_keep {w w' : World} {B : Nat} {e : TypeId} {k n : Nat} {v : Value} {xs : List Value} (h : w.ownsRow B e k v n xs) (hk : ∀ g,v.ownBlock = some g → w'.heap[g]? = w.heap[g]?) : w'.ownsRow B e k v n xs:=by
  refine ⟨h.1,?_⟩
  rcases h.2 with hn | ⟨g,cap,cur,rfl,hb,hg,rest⟩
  · exact .inl hn
  · exact .inr ⟨g,cap,cur,rfl,hb,(hk g rfl).trans hg,rest⟩
theorem own_base {w : World} {B B' : Nat} {e : TypeId} {k n : Nat} {v : Value} {xs : List Value} (h : w.ownsRow B e k v n xs) (hb : ∀ g,v.ownBlock = some g → B' ≤ g) : w.ownsRow B' e k v n xs:=by
  refine ⟨h.1,?_⟩
  rcases h.2 with hn | ⟨g,cap,cur,rfl,_,rest⟩
  · exact .inl hn
  · exact .inr ⟨g,cap,cur,rfl,hb g rfl,rest⟩
set_option maxHeartbeats 8000000 in
set_option maxRecDepth 100000 in
theorem ref03Cut (m : Nat) : ∀ (S : Nat → Prop) (v : Value) (l : List Nd) (w : World),(∀ b,S b → b < w.heap.size) → RepN S w v l → SzN l → m ≤ 1000 →
    Calls Tryz.prog 33 #[v,.int .i64 (m : Int)] w (CutPost l m w):=by
  induction m using Nat.strongRecOn with
  | ind m ih =>
    intro S v l w hS hr hsz hm
    obtain ⟨a,cap,rfl⟩:=hr.slice
    obtain ⟨_,hlc,hcm⟩:=hr.len
    go_enter Tryz.func33,Tryz.ntmps33
    go_wp2_with (fail)
    go_loopw [1,6,7] (fun u1 u6 u7 wr => ∃ (i mi : Nat) (A : List Nd),i ≤ l.length ∧ u7 = .int .i64 (i : Int) ∧ u1 = .int .i64 (mi : Int) ∧ A.length + mi ≤ m ∧ Made wr w.heap.size u6 A ∧ Below w.heap.size w wr ∧ Hid ((M3.cut l m).1 = A ++ (M3.cut (l.drop i) mi).1 ∧ (M3.cut l m).2 = (M3.cut (l.drop i) mi).2)) (fun _ _ u7 _ => l.length - (intOf u7).toNat)
    case atStart => exact ⟨0,m,[],by omega,rfl,rfl,by simp,⟨[],World.ownsRow_nil _ _ _ _,RepC.nil _ _⟩,Below.refl _ _,rfl,rfl⟩
    case round =>
      obtain ⟨i,mi,A,hi,rfl,rfl,hAm,⟨zs,hown,hrepA⟩,hb,hc⟩:=hrel
      obtain ⟨wo,rfl⟩ : ∃ wo : World,wo = wr:=⟨_,rfl⟩
      have hz:=hb.size
      by_cases hlt : i < l.length
      · by_cases hmi : 0 < mi
        · obtain ⟨mj,rfl⟩ : ∃ mj,mi = mj + 1:=⟨mi - 1,by omega⟩
          obtain ⟨b,off,va,vk,rfl,hSb,c0,c1,c2,c3,c4,hrv⟩:=(hr.below hS hb).at_ i hlt
          have hbl:=hS b hSb
          have hdr : l.drop i = l[i] :: l.drop (i + 1):=List.drop_eq_getElem_cons hlt
          rw [hdr,M3.cut_cons] at hc
          obtain ⟨hs1,hs2⟩:=szN_mem hsz (List.getElem_mem hlt)
          clear hdr
          generalize l[i] = x at *
          obtain ⟨hat,hkd⟩:=hrv
          obtain ⟨a1,cap1,rfl⟩:=hat.slice
          obtain ⟨_,hlc1,hcm1⟩:=hat.len
          obtain ⟨a2,cap2,rfl⟩:=hkd.slice
          have hx0:=Box.new wo 41 (x.cells (.slice a1 x.attrs.length cap1) (.slice a2 x.kids.length cap2))
          have hz1 : wo.heap.size < (wo.alloc (.cells (x.cells (.slice a1 x.attrs.length cap1) (.slice a2 x.kids.length cap2)).toArray 41)).heap.size:=by simp
          have hbz : Below wo.heap.size wo (wo.alloc (.cells (x.cells (.slice a1 x.attrs.length cap1) (.slice a2 x.kids.length cap2)).toArray 41)):=(Below.refl _ _).alloc (Nat.le_refl _) _
          have hfn:=Lib.hid (fun W => ref03few x.name W hs1.1)
          have hft:=Lib.hid (fun W => ref03few x.text W hs1.2.1)
          have hihk:=fun W h1 h2 => ih mj (by omega) S (.slice a2 x.kids.length cap2) x.kids W h1 h2 hs2 (by omega)
          replace hihk:=Lib.hid hihk
          go_wp2_with (fail)
          refine (hfn.out _).mono ?_
          rintro e w1 ⟨rfl,rfl⟩
          go_wp2_with (fail)
          refine (hft.out _).mono ?_
          rintro e w1 ⟨rfl,rfl⟩
          go_wp2_with (fail)
          have bx1:=Box.new wo 41 [.int .i64 x.kind,.string (M3.few x.name),.slice a1 x.attrs.length cap1,.string (M3.few x.text),.slice a2 x.kids.length cap2]
          have hbz1 : Below wo.heap.size wo (wo.alloc (.cells #[.int .i64 x.kind,.string (M3.few x.name),.slice a1 x.attrs.length cap1,.string (M3.few x.text),.slice a2 x.kids.length cap2] 41)):=(Below.refl _ _).alloc (Nat.le_refl _) _
          have hsz1 : (wo.alloc (.cells #[.int .i64 x.kind,.string (M3.few x.name),.slice a1 x.attrs.length cap1,.string (M3.few x.text),.slice a2 x.kids.length cap2] 41)).heap.size = wo.heap.size + 1:=by simp
          change Box (wo.alloc (.cells #[.int .i64 x.kind,.string (M3.few x.name),.slice a1 x.attrs.length cap1,.string (M3.few x.text),.slice a2 x.kids.length cap2] 41)) _ _ _ at bx1
          clear hx0 hz1 hbz hfn hft c0 c1 c2 c3 c4
          obtain ⟨W1,hW1⟩ : ∃ W1,wo.alloc (.cells #[.int .i64 x.kind,.string (M3.few x.name),.slice a1 x.attrs.length cap1,.string (M3.few x.text),.slice a2 x.kids.length cap2] 41) = W1:=⟨_,rfl⟩
          rw [hW1] at bx1 hbz1 hsz1 ⊢
          clear hW1
          refine (hihk.out W1 (fun b h => by have:=hS b h; omega) (hkd.keep fun b h => hbz1.block b (by have:=hS b h; omega))).mono ?_
          rintro e w2 ⟨v2,rfl,⟨zs2,hown2,hrep2⟩,hb2⟩
          obtain ⟨a3,cap3,rfl⟩:=own_slice hown2
          have hle2:=M3.cut_le x.kids mj
          have hz2:=hb2.size
          have bx2:=bx1.below hb2 (by omega)
          have d2:=bx2.cell (i:=2) rfl
          have d4:=bx2.cell (i:=4) rfl
          have f4:=bx2.free 4
          have hbr2 : Below wo.heap.size wo w2:=hbz1.trans (hb2.mono (by omega))
          clear hihk bx1
          replace hsz1:=Lib.hid hsz1
          generalize hkc : (M3.cut x.kids mj).1 = ks' at *
          generalize hmc : (M3.cut x.kids mj).2 = m2 at *
          replace hkc:=Lib.hid hkc
          replace hmc:=Lib.hid hmc
          go_wp2_with (fail)
          have bx3:=bx2.set 4 (.slice a3 ks'.length cap3)
          have hbr3 : Below wo.heap.size wo (w2.setCell ⟨wo.heap.size,4,none⟩ (.slice a3 ks'.length cap3)):=hbr2.setCell (p:=⟨wo.heap.size,4,none⟩) (Nat.le_refl _) _
          have hne2 : ∀ b,W1.heap.size ≤ b → (w2.setCell ⟨wo.heap.size,4,none⟩ (.slice a3 ks'.length cap3)).heap[b]? = w2.heap[b]?:=fun b h => Below.heap_setCell _ _ _ _ (by have:=hsz1.out; simp; omega)
          have hz3 : (w2.setCell ⟨wo.heap.size,4,none⟩ (.slice a3 ks'.length cap3)).heap.size = w2.heap.size:=by simp [World.setCell]
          have hown3:=own_keep hown2 (fun g hg => hne2 g (hown2.lt g hg).1)
          have hrep3:=RepC.keep (fun b hb => hne2 b hb.1) _ _ hrep2
          simp only [List.set_cons_succ,List.set_cons_zero] at bx3
          obtain ⟨W2,hW2⟩ : ∃ W2,w2.setCell ⟨wo.heap.size,4,none⟩ (.slice a3 ks'.length cap3) = W2:=⟨_,rfl⟩
          rw [hW2] at bx3 hbr3 hz3 hown3 hrep3 ⊢
          clear hW2 hne2 d2 d4 f4 bx2 hown2 hrep2 hbr2
          have hgl:=bx3.lt
          obtain ⟨i0,hi0,hz00,hz01,hz02⟩:=info_parts infoA
          replace hkd:=Lib.hid hkd
          replace hrep3:=Lib.hid hrep3
          replace hown3:=Lib.hid hown3
          replace hrepA:=Lib.hid hrepA
          replace hown:=Lib.hid hown
          have hSz2 : ∀ b,S b → b < W2.heap.size:=fun b h => by have:=hS b h; omega
          go_loopw [9,10] (fun u9 u10 wr => ∃ k : Nat,k ≤ 5 ∧ k ≤ x.attrs.length ∧ u10 = .int .i64 (k : Int) ∧ wr.ownsRow W2.heap.size 43 2 u9 k (cellsA ((x.attrs.take k).map M3.fewA)) ∧ Below W2.heap.size W2 wr) (fun _ u10 _ => 5 - (intOf u10).toNat)
          case atStart => exact ⟨0,by omega,by omega,rfl,World.ownsRow_nil _ _ _ _,Below.refl _ _⟩
          case round =>
            obtain ⟨k,hk5,hkl,rfl,hown4,hb4⟩:=hrel
            have hz4:=hb4.size
            have bx4:=bx3.below hb4 hgl
            have e2:=bx4.cell (i:=2) rfl
            by_cases hk : k < 5 ∧ k < x.attrs.length
            · obtain ⟨hk1,hk2⟩:=hk
              obtain ⟨b',off',rfl,hSb',q0,q1⟩:=(hat.keep (w':=wr) (fun b h => ((hb4.block b (hSz2 b h)).trans (hbr3.block b (by have:=hS b h; omega))))).atA k hk2
              have hbl':=hS b' hSb'
              obtain ⟨hsa,hsb⟩:=hs1.2.2 _ (List.getElem_mem hk2)
              have htk : cellsA ((x.attrs.take (k + 1)).map M3.fewA) = cellsA ((x.attrs.take k).map M3.fewA) ++ [.string (M3.few x.attrs[k].name),.string (M3.few x.attrs[k].value)]:=by
                rw [List.take_succ_eq_append_getElem hk2,List.map_append,cellsA_append]; rfl
              generalize x.attrs[k].name = nm at *
              generalize x.attrs[k].value = vl at *
              replace htk:=Lib.hid htk
              have ag : u9.ownBlock ≠ some wo.heap.size:=fun e => by have:=(hown4.lt _ e).1; omega
              have ab : u9.ownBlock ≠ some b':=fun e => by have:=(hown4.lt _ e).1; omega
              go_wp2_with (fail)
              go_region_held3 (fun w' => w'.cell? ⟨wo.heap.size,2,none⟩ = some (.slice (some ⟨b',off',none⟩) x.attrs.length cap1) ∧ w'.cell? ⟨b',off' + k * 2,none⟩ = some (.string nm) ∧ w'.cell? ⟨b',off' + k * 2 + 1,none⟩ = some (.string vl))
                (first
                  | go_keep
                  | (go_split_ands
                     refine ⟨?_,?_,?_⟩
                     · (rw [hgrow.cell_far _ (by simp; omega) (Ne.symm ag)]; assumption)
                     · (rw [hgrow.cell_far _ (by simp; omega) (Ne.symm ab)]; assumption)
                     · (rw [hgrow.cell_far _ (by simp; omega) (Ne.symm ab)]; assumption)))
                (first
                  | (go_at_call 46; refine (ref03few _ _ (by assumption)).mono ?_; rintro e w' ⟨rfl,rfl⟩)
                  | (refine step_append_lies _ (by rfl) _ _ _ (by rfl) W2.heap.size 43 i0 _ 2 32 Tryz.underlying39 hi0 hz00 hz01 hz02 rfl (by omega) u9 k _ (by rfl) ((hown4.alloc _).drew)
                      ⟨wr.heap.size,0,none⟩ 1 1 [.string (M3.few nm),.string (M3.few vl)] (by rfl) (by rfl) (World.news_of_block (cs:=#[.string (M3.few nm),.string (M3.few vl)]) (t:=43) (fr:=(0,0)) (heap_alloc_new wr _)) (by simp [Value.oneCell'])
                      (by omega) (by unfold maxLen; omega) (by omega) (by simp; omega) (wr.heap.size + 1) (by simp) ?_; intro gg cap' w5 hown5 hgrow hat5 hlt5))
              have hb5 : Below W2.heap.size W2 w5:=((hb4.alloc hz4 (.cells #[.string (M3.few nm),.string (M3.few vl)] 43)).drew).grown hgrow (by simp; omega) (fun g hg => (hown4.lt g hg).1)
              have hown6 : w5.ownsRow W2.heap.size 43 2 (.slice (some ⟨gg,0,none⟩) (k + 1) cap') (k + 1) (cellsA ((x.attrs.take (k + 1)).map M3.fewA)):=by rw [htk.out]; exact hown5
              clear hown5 hgrow hat5
              go_wp2
              go_roundw
              case rel => exact ⟨k + 1,by omega,by omega,by go_num,hown6,hb5⟩
              case measure => simp [intOf]; omega
            · have htk : (x.attrs.take 5).map M3.fewA = (x.attrs.take k).map M3.fewA:=by
                rcases Nat.lt_or_ge k 5 with h | h
                · rw [List.take_of_length_le (show x.attrs.length ≤ 5 by omega),List.take_of_length_le (show x.attrs.length ≤ k by omega)]
                · rw [show k = 5 by omega]
              have hlk : ((x.attrs.take k).map M3.fewA).length = k:=by simp; omega
              rw [← htk] at hown4 hlk
              generalize hat' : (x.attrs.take 5).map M3.fewA = ats' at *
              replace hat':=Lib.hid hat'
              replace htk:=Lib.hid htk
              replace hlk:=Lib.hid hlk
              obtain ⟨a4,cap4,rfl⟩:=own_slice hown4
              have f2:=bx4.free 2
              have e0:=bx4.cell (i:=0) rfl
              have e1:=bx4.cell (i:=1) rfl
              have e3:=bx4.cell (i:=3) rfl
              have e4:=bx4.cell (i:=4) rfl
              have hbr4 : Below wo.heap.size wo wr:=hbr3.trans (hb4.mono (by omega))
              obtain ⟨j0,hj0,hj00,hj01,hj02⟩:=info_parts infoN
              have hownW:=own_keep hown.out (fun g hg => hbr4.block g (hown.out.lt g hg).2)
              have hlz:=hbr4.size
              have hz5 : (wr.setCell ⟨wo.heap.size,2,none⟩ (.slice a4 k cap4)).heap.size = wr.heap.size:=by simp [World.setCell]
              have hb5 : Below wo.heap.size wo (wr.setCell ⟨wo.heap.size,2,none⟩ (.slice a4 k cap4)):=hbr4.setCell (p:=⟨wo.heap.size,2,none⟩) (Nat.le_refl _) _
              have hfar : ∀ b,b ≠ wo.heap.size → (wr.setCell ⟨wo.heap.size,2,none⟩ (.slice a4 k cap4)).heap[b]? = wr.heap[b]?:=fun b h => Below.heap_setCell _ _ _ _ (by simpa using h)
              have hownW2:=own_keep hownW (fun g hg => hfar g (by have:=(hownW.lt g hg); have:=(hown.out.lt g hg).2; omega))
              have hnews : ∀ j u,([.int .i64 x.kind,.string (M3.few x.name),.slice a4 k cap4,.string (M3.few x.text),.slice a3 ks'.length cap3] : List Value)[j]? = some u →
                  ((wr.setCell ⟨wo.heap.size,2,none⟩ (.slice a4 k cap4)).alloc (.cells #[.int .i64 x.kind,.string (M3.few x.name),.slice a4 k cap4,.string (M3.few x.text),.slice a3 ks'.length cap3] 41)).cell? ((⟨wr.heap.size,0,none⟩ : Addr).add j) = some u:=by
                rw [← hz5]
                exact World.news_of_block (cs:=#[.int .i64 x.kind,.string (M3.few x.name),.slice a4 k cap4,.string (M3.few x.text),.slice a3 ks'.length cap3]) (t:=41) (fr:=(0,0)) (heap_alloc_new _ _)
              have hatN:=own_keep hown4 (fun g hg => hfar g (by have:=(hown4.lt g hg).1; omega))
              have hownK:=own_keep (own_keep hown3.out (fun g hg => hb4.block g (hown3.out.lt g hg).2)) (fun g hg => hfar g (by have:=(hown3.out.lt g hg).1; have:=hsz1.out; omega))
              have hrepK : RepC (fun b => W1.heap.size ≤ b ∧ b < w2.heap.size ∧ (Value.slice a3 ks'.length cap3).ownBlock ≠ some b) (wr.setCell ⟨wo.heap.size,2,none⟩ (.slice a4 k cap4)) zs2 ks' :=
                RepC.keep (fun b h => (hfar b (by have:=h.1; have:=hsz1.out; omega)).trans (hb4.block b (by have:=h.2.1; omega))) _ _ hrep3.out
              have hrepA2 : RepC (fun b => w.heap.size ≤ b ∧ b < wo.heap.size ∧ u6.ownBlock ≠ some b) (wr.setCell ⟨wo.heap.size,2,none⟩ (.slice a4 k cap4)) zs A:=RepC.keep (fun b h => hb5.block b h.2.1) _ _ hrepA.out
              have hlA:=hown.out.1
              have hownK3:=Lib.hid (fun g hg => (hown3.out.lt g hg).2)
              replace hrepK:=Lib.hid hrepK
              replace hrepA2:=Lib.hid hrepA2
              replace hatN:=Lib.hid hatN
              replace hownK:=Lib.hid hownK
              replace hnews:=Lib.hid hnews
              replace hfar:=Lib.hid hfar
              replace hz5:=Lib.hid hz5
              clear hrepA hrep3 hown3 hown4 hownW
              have hgb6 : u6.ownBlock ≠ some wo.heap.size:=fun e => by have:=(hown.out.lt _ e).2; omega
              have htest : (decide (k < x.attrs.length) = false) ∨ (decide (k < x.attrs.length) = true ∧ decide ((k : Int) < 5) = false):=by
                by_cases h : k < x.attrs.length
                · exact Or.inr ⟨decide_eq_true (by omega),decide_eq_false (by omega)⟩
                · exact Or.inl (decide_eq_false (by omega))
              clear hk
              rcases htest with htest | ⟨htest,htest2⟩
              all_goals
                go_wp2_with (at_builtin; refine wpList_append_lies _ rfl _ _ 25 rfl w.heap.size 41 j0 _ 5 88 Tryz.underlying25 hj0 hj00 hj01 hj02 rfl (by omega) u6 A.length zs rfl (hownW2.alloc _) ⟨wr.heap.size,0,none⟩ 1 1 _ rfl rfl hnews.out (by simp [Value.oneCell']) (by omega) (by unfold maxLen; omega) (by omega) (by simp; omega) _ rfl ?_; intro gg cap' w5 hown5 hgrow hat5 hlt5)
                have hb6 : Below w.heap.size w w5:=(((hb.trans (hb5.mono hz)).alloc (by have:=hz5.out; omega) (.cells #[.int .i64 x.kind,.string (M3.few x.name),.slice a4 _ cap4,.string (M3.few x.text),.slice a3 ks'.length cap3] 41))).grown hgrow (by simp; have:=hz5.out; omega) (fun g hg => (hown.out.lt g hg).1)
                have hmade : Made w5 w.heap.size (.slice (some ⟨gg,0,none⟩) (A.length + 1) cap') (A ++ [.mk x.kind (M3.few x.name) ats' (M3.few x.text) ks']):=by
                  refine Made.snoc (u:=u6) (va:=.slice a4 _ cap4) (vk:=.slice a3 ks'.length cap3) (SA:=fun b => w.heap.size ≤ b ∧ b < wo.heap.size ∧ u6.ownBlock ≠ some b) (SX:=fun b => W1.heap.size ≤ b ∧ b < wr.heap.size) rfl hown5 hgrow ?_ ?_ ?_ ?_ ?_
                  · rcases hat5 with h | h
                    · exact Or.inl h
                    · exact Or.inr (by rw [h]; exact Nat.le_refl _)
                  · exact RepC.keep (fun b h => Below.heap_alloc _ _ _ (by have:=hz5.out; have:=h.2.1; omega)) _ _ hrepA2.out
                  · exact fun b h => ⟨h.1,by simp; have:=hz5.out; have:=h.2.1; omega,h.2.2⟩
                  · refine RepV.keep (w:=wr.setCell ⟨wo.heap.size,2,none⟩ (.slice a4 _ cap4)) ⟨?_,zs2,?_,?_⟩ (fun b h => Below.heap_alloc _ _ _ (by have:=hz5.out; have:=h.2; omega))
                    · have h1:=Row.own hatN.out (S:=fun b => W1.heap.size ≤ b ∧ b < wr.heap.size) (fun g hg => by have:=hatN.out.lt g hg; have:=hz5.out; omega)
                      simpa only [Nd.attrs,hlk.out] using h1
                    · exact Row.own hownK.out (fun g hg => by have h1:=hownK.out.lt g hg; have h2:=hz5.out; have h3:=hownK3.out g hg; omega)
                    · exact RepC.mono (fun b h => ⟨h.1,by have:=h.2.1; omega⟩) _ _ hrepK.out
                  · exact fun b h => ⟨by have:=h.1; have:=hsz1.out; omega,by simp; have:=hz5.out; have:=h.2; omega,fun e => by have:=(hown.out.lt b e).2; have:=h.1; have:=hsz1.out; omega⟩
                clear hown5 hgrow hat5
                replace hmade:=Lib.hid hmade
                go_roundw
                case rel =>
                  refine ⟨i + 1,m2,A ++ [.mk x.kind (M3.few x.name) ats' (M3.few x.text) ks'],by omega,by go_num,rfl,by simp; omega,hmade.out,hb6,?_⟩
                  show _ ∧ _
                  rw [hc.1,hc.2]
                  simp
                case measure => simp [intOf]; omega
        · obtain rfl : mi = 0:=by omega
          rw [M3.cut_zero] at hc
          have hc1:=Lib.hid (show (M3.cut l m).1 = A by rw [hc.1]; simp)
          have hc2:=Lib.hid hc.2
          clear hc hmi
          replace hown:=Lib.hid hown
          replace hrepA:=Lib.hid hrepA
          go_wp2
          go_ret2
          exact ⟨u6,by rw [hc2.out]; rfl,by rw [hc1.out]; exact ⟨zs,hown.out,hrepA.out⟩,hb⟩
      · obtain rfl : i = l.length:=by omega
        rw [List.drop_length,M3.cut_nil] at hc
        have hc1:=Lib.hid (show (M3.cut l m).1 = A by rw [hc.1]; simp)
        have hc2:=Lib.hid hc.2
        clear hc
        replace hown:=Lib.hid hown
        replace hrepA:=Lib.hid hrepA
        go_wp2
        go_ret2
        exact ⟨u6,by rw [hc2.out]; rfl,by rw [hc1.out]; exact ⟨zs,hown.out,hrepA.out⟩,hb⟩
def fewN (l : List Nd) : List Nd:=(M3.cut l 40).1
def MadePost (l : List Nd) (w : World) (e : Ending) (w' : World) : Prop:=∃ v',e = .returned v' ∧ Made w' w.heap.size v' l ∧ Below w.heap.size w w'
set_option maxHeartbeats 1000000 in
theorem ref03Few (S : Nat → Prop) (v : Value) (l : List Nd) (w : World) (hS : ∀ b,S b → b < w.heap.size) (hr : RepN S w v l) (hsz : SzN l) :
    Calls Tryz.prog 16 #[v] w (MadePost (fewN l) w):=by
  have h:=Lib.hid (fun W h1 h2 => ref03Cut 40 S v l W h1 h2 hsz (by omega))
  obtain ⟨a,cap,rfl⟩:=hr.slice
  go_enter Tryz.func16,Tryz.ntmps16
  go_wp2_with (fail)
  refine (h.out w hS hr).mono ?_
  rintro e w1 ⟨v1,rfl,hm1,hb1⟩
  replace hm1:=Lib.hid hm1
  go_wp2
  go_ret
  exact ⟨v1,rfl,hm1.out,hb1⟩
end Go.Proofs.YteefodibpjgicaaGreat
