/- Texts joined: DomM3, Ref03f, DomM4, Same, Same2, Same3. -/
import Derived.Deep.RegionHeld3
import Derived.Deep.AppendLies
import Derived.Test.YteefodibpjgicaaGreatA14
import Derived.Test.YteefodibpjgicaaGreatA18
import Derived.Test.YteefodibpjgicaaGreatA20
namespace Go.Proofs.YteefodibpjgicaaGreat
open Go.RowKit
theorem Fresh.nil (w : World) (B : Nat) : Fresh w B (.slice none 0 0) []:=⟨[],[],World.ownsRow_nil _ _ _ _,OwnC.nil _,Span.nil _ _⟩
theorem Fresh.base {w : World} {B B' : Nat} {v : Value} {l : List Nd} (h : Fresh w B v l) (hb : B' ≤ B) : Fresh w B' v l:=by
  obtain ⟨zs,F,h1,h2,h3⟩:=h
  exact ⟨zs,F,own_base h1 (fun g hg => by have:=(h1.lt g hg).1; omega),h2,h3.mono hb (Nat.le_refl _)⟩
theorem Fresh.keep {w w' : World} {B : Nat} {v : Value} {l : List Nd} (h : Fresh w B v l) (hk : ∀ b,B ≤ b → b < w.heap.size → w'.heap[b]? = w.heap[b]?) (hz : w.heap.size ≤ w'.heap.size) : Fresh w' B v l:=by
  obtain ⟨zs,F,h1,h2,h3⟩:=h
  exact ⟨zs,F,own_keep h1 (fun g hg => hk g (h1.lt g hg).1 (h1.lt g hg).2),OwnC.keep _ _ _ (fun b hb => hk b (h3.2 b (by simp [hb])).1 (h3.2 b (by simp [hb])).2) h2,h3.mono (Nat.le_refl _) hz⟩
theorem Fresh.snoc {W w5 : World} {B mid g n cap : Nat} {u : Value} {A : List Nd} {zs : List Value} {F : List Nat} {x : Nd} {va vk : Value} {zs2 : List Value} {F2 : List Nat} (hn : n = A.length + 1)
    (hown5 : w5.ownsRow B 41 5 (.slice (some ⟨g,0,none⟩) n cap) n (zs ++ x.cells va vk)) (hgrow : W.grownBy w5 u.ownBlock) (hat : u.ownBlock = some g ∨ W.heap.size ≤ g)
    (hA : OwnC W zs A F) (hsp : Span B mid (u.ownBlock.toList ++ F))
    (ha : W.ownsRow 0 43 2 va x.attrs.length (cellsA x.attrs)) (hk : W.ownsRow 0 41 5 vk x.kids.length zs2) (hc : OwnC W zs2 x.kids F2) (hsp2 : Span mid W.heap.size (va.ownBlock.toList ++ (vk.ownBlock.toList ++ F2))) (hBm : B ≤ mid) (hm : mid ≤ W.heap.size) :
    Fresh w5 B (.slice (some ⟨g,0,none⟩) n cap) (A ++ [x]):=by
  subst hn
  have hall : Span B W.heap.size (u.ownBlock.toList ++ F ++ (va.ownBlock.toList ++ (vk.ownBlock.toList ++ F2))):=Span.append hsp hsp2 hBm hm
  have hg5:=(hown5.lt g rfl)
  have hkeep : ∀ b ∈ F ++ (va.ownBlock.toList ++ (vk.ownBlock.toList ++ F2)),w5.heap[b]? = W.heap[b]?:=by
    intro b hb
    refine hgrow.block b (hall.2 b (by rcases List.mem_append.1 hb with h | h <;> simp [h])).2 (fun e => ?_)
    have hnd:=hall.1
    rw [List.append_assoc] at hnd
    have:=(List.nodup_append.1 hnd).2.2 b (by rw [← e]; simp) b hb
    exact this rfl
  have hgn : g ∉ F ++ (va.ownBlock.toList ++ (vk.ownBlock.toList ++ F2)):=by
    intro hb
    rcases hat with h | h
    · have hnd:=hall.1
      rw [List.append_assoc] at hnd
      exact (List.nodup_append.1 hnd).2.2 g (by rw [h]; simp) g hb rfl
    · have:=(hall.2 g (by rcases List.mem_append.1 hb with h | h <;> simp [h])).2
      omega
  refine ⟨zs ++ x.cells va vk,F ++ (va.ownBlock.toList ++ (vk.ownBlock.toList ++ F2)),by simpa using hown5,?_,?_⟩
  · refine OwnC.append ?_ _ _ _ (OwnC.keep _ _ _ (fun b hb => hkeep b (by simp [hb])) hA)
    exact OwnC.cons_iff.2 ⟨va,vk,zs2,[],F2,[],by simp,own_keep ha (fun b hb => hkeep b (by simp [hb])),own_keep hk (fun b hb => hkeep b (by simp [hb])),by simp,OwnC.keep _ _ _ (fun b hb => hkeep b (by simp [hb])) hc,OwnC.nil _⟩
  · have hs:=hgrow.size
    refine ⟨?_,fun b hb => ?_⟩
    · show (g :: (F ++ (va.ownBlock.toList ++ (vk.ownBlock.toList ++ F2)))).Nodup
      refine List.nodup_cons.2 ⟨hgn,?_⟩
      have hnd:=hall.1
      rw [List.append_assoc] at hnd
      exact (List.nodup_append.1 hnd).2.1
    · rcases List.mem_append.1 hb with h | h
      · have : b = g:=by simpa [Value.ownBlock] using h
        subst this
        exact hg5
      · have:=hall.2 b (by rcases List.mem_append.1 h with h | h <;> simp [h])
        omega
end Go.Proofs.YteefodibpjgicaaGreat

namespace Go.Proofs.YteefodibpjgicaaGreat
open Go.RowKit
theorem OwnC.nv {w : World} (l : List Nd) : ∀ (xs : List Value) (F : List Nat),OwnC w xs l F → ∃ L : List NV,L.map NV.x = l ∧ xs = cellsV L ∧ ∀ b ∈ L,b.ok:=by
  induction l using Nd.ind with
  | h0 => intro xs F h; rw [OwnC] at h; exact ⟨[],rfl,h.1,fun b hb => by cases hb⟩
  | h1 k n ats t ks r _ ih2 =>
    intro xs F h
    obtain ⟨va,vk,zs,ys,F1,F2,rfl,h2,h3,rfl,h5,h6⟩:=OwnC.cons_iff.1 h
    obtain ⟨L,rfl,rfl,hL⟩:=ih2 _ _ h6
    refine ⟨⟨.mk k n ats t ks,va,vk⟩ :: L,rfl,rfl,fun b hb => ?_⟩
    rcases List.mem_cons.1 hb with rfl | hb
    · exact ⟨own_slice h2,own_slice h3⟩
    · exact hL b hb
theorem OwnC.one {w : World} {b : NV} {F : List Nat} (h : OwnC w b.cells [b.x] F) : ∃ zs F1,w.ownsRow 0 43 2 b.va b.x.attrs.length (cellsA b.x.attrs) ∧ w.ownsRow 0 41 5 b.vk b.x.kids.length zs ∧ F = b.va.ownBlock.toList ++ (b.vk.ownBlock.toList ++ F1) ∧ OwnC w zs b.x.kids F1:=by
  obtain ⟨va,vk,zs,ys,F1,F2,h1,h2,h3,rfl,h5,h6⟩:=OwnC.cons_iff.1 h
  rw [OwnC] at h6
  obtain ⟨rfl,rfl⟩:=h6
  obtain ⟨x,va',vk'⟩:=b
  cases h1
  exact ⟨zs,F1,h2,h3,by simp,h5⟩
theorem OwnC.mk_one {w : World} {b : NV} {zs : List Value} {F1 : List Nat} (h2 : w.ownsRow 0 43 2 b.va b.x.attrs.length (cellsA b.x.attrs)) (h3 : w.ownsRow 0 41 5 b.vk b.x.kids.length zs) (h5 : OwnC w zs b.x.kids F1) :
    OwnC w b.cells [b.x] (b.va.ownBlock.toList ++ (b.vk.ownBlock.toList ++ F1)) :=
  OwnC.cons_iff.2 ⟨b.va,b.vk,zs,[],F1,[],by simp,h2,h3,by simp,h5,OwnC.nil _⟩
theorem OwnC.split {w : World} {m : List Nd} {ys : List Value} (l : List Nd) : ∀ (xs : List Value) (F : List Nat),xs.length = l.length * 5 → OwnC w (xs ++ ys) (l ++ m) F → ∃ F1 F2,F = F1 ++ F2 ∧ OwnC w xs l F1 ∧ OwnC w ys m F2:=by
  induction l using Nd.ind with
  | h0 =>
    intro xs F hl h
    obtain rfl : xs = []:=List.eq_nil_of_length_eq_zero (by simpa using hl)
    exact ⟨[],F,rfl,OwnC.nil _,h⟩
  | h1 k n ats t ks r _ ih2 =>
    intro xs F hl h
    obtain ⟨va,vk,zs,ys',F1,F2,h1,h2,h3,rfl,h5,h6⟩:=OwnC.cons_iff.1 h
    obtain ⟨xs',rfl⟩ : ∃ xs',xs = (Nd.mk k n ats t ks).cells va vk ++ xs':=by
      match xs,hl,h1 with
      | c0 :: c1 :: c2 :: c3 :: c4 :: xs',_,h1 =>
        simp only [List.cons_append,List.cons.injEq,List.nil_append] at h1
        obtain ⟨rfl,rfl,rfl,rfl,rfl,_⟩:=h1
        exact ⟨xs',rfl⟩
      | [],hl,_ | [_],hl,_ | [_,_],hl,_ | [_,_,_],hl,_ | [_,_,_,_],hl,_ => exact absurd hl (by simp <;> omega)
    rw [List.append_assoc] at h1
    have h1' : xs' ++ ys = ys':=List.append_cancel_left h1
    subst h1'
    obtain ⟨G1,G2,rfl,g1,g2⟩:=ih2 xs' F2 (by simp at hl; omega) h6
    exact ⟨_,G2,(by rw [← List.append_assoc]),OwnC.cons_iff.2 ⟨va,vk,zs,xs',F1,G1,rfl,h2,h3,rfl,h5,g1⟩,g2⟩
theorem OwnC.text {w : World} {b : NV} {F : List Nat} (t : ByteArray) (h : OwnC w b.cells [b.x] F) : OwnC w (b.withText t).cells [(b.withText t).x] F:=by
  obtain ⟨zs,F1,h1,h2,rfl,h4⟩:=h.one
  obtain ⟨⟨k,n,ats,t0,ks⟩,va,vk⟩:=b
  exact OwnC.mk_one (b:=⟨.mk k n ats t ks,va,vk⟩) h1 h2 h4
theorem ownC_merge {w : World} : ∀ (L out : List NV) (F Fo : List Nat),OwnC w (cellsV L) (L.map NV.x) F → OwnC w (cellsV out) (out.map NV.x) Fo → ∃ F',OwnC w (cellsV (L.foldl pushV out)) ((L.foldl pushV out).map NV.x) F' ∧ F'.Sublist (Fo ++ F):=by
  intro L
  induction L with
  | nil => intro out F Fo h ho; rw [OwnC.eq_def] at h; exact ⟨Fo,ho,by simp⟩
  | cons b r ih =>
    intro out F Fo h ho
    rw [cellsV_cons,← List.singleton_append,List.map_append] at h
    obtain ⟨Fb,Fr,rfl,hb,hr⟩:=OwnC.split [b.x] b.cells F rfl h
    rw [List.foldl_cons]
    have key : ∃ Fp,OwnC w (cellsV (pushV out b)) ((pushV out b).map NV.x) Fp ∧ Fp.Sublist (Fo ++ Fb):=by
      cases hbr : bareV b
      · rcases List.eq_nil_or_concat out with rfl | ⟨o,y,rfl⟩
        · rw [pushV_nil hbr,cellsV_one]
          exact ⟨Fb,hb,List.sublist_append_right _ _⟩
        · rw [List.concat_eq_append] at ho ⊢
          rw [pushV_snoc hbr]
          split
          · rw [cellsV_snoc,List.map_append] at ho
            obtain ⟨G1,G2,rfl,g1,g2⟩:=OwnC.split (o.map NV.x) (cellsV o) Fo (by rw [cellsV_len,List.length_map]) ho
            refine ⟨G1 ++ G2,?_,List.sublist_append_left _ _⟩
            rw [cellsV_snoc,List.map_append]
            exact OwnC.append (OwnC.text _ g2) _ _ _ g1
          · refine ⟨Fo ++ Fb,?_,List.Sublist.refl _⟩
            rw [cellsV_snoc,List.map_append]
            exact OwnC.append hb _ _ _ ho
      · rw [pushV_bare hbr]
        exact ⟨Fo,ho,List.sublist_append_left _ _⟩
    obtain ⟨Fp,hp,hs⟩:=key
    obtain ⟨F',h1,h2⟩:=ih (pushV out b) Fr Fp hr hp
    refine ⟨F',h1,h2.trans ?_⟩
    rw [← List.append_assoc]
    exact List.Sublist.append hs (List.Sublist.refl _)
def FreshB (B : Nat) (l : List Nd) (w : World) (e : Ending) (w' : World) : Prop:=∃ v',e = .returned v' ∧ Fresh w' B v' l ∧ Below w.heap.size w w'
theorem ref03MergeF (B : Nat) (v : Value) (l : List Nd) (w : World) (hB : B ≤ w.heap.size) (hf : Fresh w B v l) (hl : l.length ≤ 1000000) (ht : txtN l ≤ 1073741824) :
    Calls Tryz.prog 50 #[v] w (FreshB B (M3.merge l) w):=by
  obtain ⟨zs,F,hown,hoc,hsp⟩:=hf
  obtain ⟨L,rfl,rfl,hL⟩:=OwnC.nv _ _ _ hoc
  rw [List.length_map] at hown hl
  refine (ref03MergeV (fun b => b < w.heap.size) v L w (fun _ h => h) (Row.own hown (fun g hg => (hown.lt g hg).2)) hL hl (by rw [← txtV_map] at ht; exact ht)).mono ?_
  rintro e w1 ⟨v1,rfl,hown1,hb⟩
  obtain ⟨F',h1,h2⟩:=ownC_merge L [] F [] hoc (OwnC.nil _)
  rw [List.nil_append] at h2
  refine ⟨v1,rfl,⟨cellsV (mergeV L),F',?_,?_,?_⟩,hb⟩
  · rw [← mergeV_map,List.length_map]; exact own_base hown1 (fun g hg => by have:=(hown1.lt g hg).1; omega)
  · rw [← mergeV_map]
    exact OwnC.keep _ _ _ (fun b hb' => hb.block b (hsp.2 b (List.mem_append_right _ (h2.subset hb'))).2) h1
  · have hz:=hb.size
    have s1:=Span.own hown1
    refine ⟨List.nodup_append.2 ⟨s1.1,h2.nodup (List.nodup_append.1 hsp.1).2.1,fun a ha b hb' e => ?_⟩,fun b hb' => ?_⟩
    · have h3:=(s1.2 a ha).1
      have h4:=(hsp.2 b (List.mem_append_right _ (h2.subset hb'))).2
      omega
    · rcases List.mem_append.1 hb' with h | h
      · have:=s1.2 b h; omega
      · have:=hsp.2 b (List.mem_append_right _ (h2.subset h)); omega
end Go.Proofs.YteefodibpjgicaaGreat

namespace Go.Proofs.YteefodibpjgicaaGreat
open Go.RowKit
end Go.Proofs.YteefodibpjgicaaGreat

namespace Go.Proofs.YteefodibpjgicaaGreat
open Go.RowKit
def oneSame (x y : Nd) : Bool:=x.kind == y.kind && M3.eqB x.name y.name && M3.eqB x.text y.text && M3.sameA x.attrs y.attrs && M3.sameN x.kids y.kids
theorem sameA_drop (a b : List Att) (i : Nat) (h : i < a.length) (h2 : i < b.length) : M3.sameA (a.drop i) (b.drop i) = (M3.eqB a[i].name b[i].name && M3.eqB a[i].value b[i].value && M3.sameA (a.drop (i + 1)) (b.drop (i + 1))):=by
  rw [List.drop_eq_getElem_cons h,List.drop_eq_getElem_cons h2,M3.sameA]
theorem sameN_drop (a b : List Nd) (i : Nat) (h : i < a.length) (h2 : i < b.length) : M3.sameN (a.drop i) (b.drop i) = (oneSame a[i] b[i] && M3.sameN (a.drop (i + 1)) (b.drop (i + 1))):=by
  rw [List.drop_eq_getElem_cons h,List.drop_eq_getElem_cons h2,M3.sameN_cons]; rfl
set_option maxHeartbeats 2000000 in
set_option maxRecDepth 100000 in
theorem slEqual (S : Nat → Prop) (a b : List Att) (va vb : Value) (w : World) (hS : ∀ b,S b → b < w.heap.size) (ha : Row S w 2 va a.length (cellsA a)) (hb : Row S w 2 vb b.length (cellsA b)) :
    Calls Tryz.prog 79 #[va,vb] w fun e w' => e = .returned (.bool (M3.sameA a b)) ∧ Below w.heap.size w w':=by
  obtain ⟨a1,cap1,rfl⟩:=ha.slice
  obtain ⟨a2,cap2,rfl⟩:=hb.slice
  obtain ⟨_,hl1,hm1⟩:=ha.len
  obtain ⟨_,hl2,hm2⟩:=hb.len
  by_cases hne : a.length = b.length
  · have hz : ((a.length : Int) == (b.length : Int)) = true:=by simp [hne]
    have h0 : Hid (M3.sameA a b = M3.sameA (a.drop 0) (b.drop 0)):=rfl
    replace hne:=Lib.hid hne
    go_enter Tryz.func79,Tryz.ntmps79
    go_wp2
    go_loopw [5,13] (fun _ u13 wr => ∃ i : Nat,i ≤ a.length ∧ u13 = .int .i64 (i : Int) ∧ Hid (M3.sameA a b = M3.sameA (a.drop i) (b.drop i)) ∧ Below w.heap.size w wr) (fun _ u13 _ => a.length - (intOf u13).toNat)
    case atStart => exact ⟨0,by omega,rfl,h0,Below.refl _ _⟩
    case round =>
      obtain ⟨i,hi,rfl,hv,hbw⟩:=hrel
      clear h0
      by_cases hlt : i < a.length
      · have hlt2 : i < b.length:=by have:=hne.out; omega
        have hI0 : (0 : Int) ≤ (i : Int):=by omega
        have hI1 : (i : Int) < (a.length : Int):=by omega
        have hI2 : (i : Int) < (b.length : Int):=by omega
        obtain ⟨b1,off1,rfl,hS1,c0,c1⟩:=(ha.below hS hbw).atA i hlt
        obtain ⟨b2,off2,rfl,hS2,d0,d1⟩:=(hb.below hS hbw).atA i hlt2
        have hsd:=sameA_drop a b i hlt hlt2
        generalize a[i].name = n1 at *
        generalize a[i].value = x1 at *
        generalize b[i].name = n2 at *
        generalize b[i].value = x2 at *
        replace hsd:=Lib.hid hsd
        have q1 : M3.eqB n1 n2 = (n1.toList == n2.toList):=rfl
        have q2 : M3.eqB x1 x2 = (x1.toList == x2.toList):=rfl
        replace hsd:=hsd.out
        cases he1 : (n1.toList == n2.toList)
        · have hsd : M3.sameA (a.drop i) (b.drop i) = false:=by rw [hsd,q1,he1]; rfl
          clear q1 q2
          replace hsd:=Lib.hid (hv.out.trans hsd)
          clear hv
          go_wp2_with (fail)
          go_region_held3 (fun w' => w'.cell? ⟨b1,off1 + i * 2,none⟩ = some (.string n1) ∧ w'.cell? ⟨b1,off1 + i * 2 + 1,none⟩ = some (.string x1) ∧ w'.cell? ⟨b2,off2 + i * 2,none⟩ = some (.string n2) ∧ w'.cell? ⟨b2,off2 + i * 2 + 1,none⟩ = some (.string x2))
            (first
              | go_keep
              | assumption)
            (first
              | fail)
          go_wp2_with (fail)
          go_ret
          exact ⟨by rw [hsd.out]; rfl,hbw.trans ((Below.refl _ wr).drew.mono (by have:=hbw.size; omega))⟩
        · cases he2 : (x1.toList == x2.toList)
          · have hsd : M3.sameA (a.drop i) (b.drop i) = false:=by rw [hsd,q1,q2,he1,he2]; rfl
            clear q1 q2
            replace hsd:=Lib.hid (hv.out.trans hsd)
            clear hv
            go_wp2_with (fail)
            go_region_held3 (fun w' => w'.cell? ⟨b1,off1 + i * 2,none⟩ = some (.string n1) ∧ w'.cell? ⟨b1,off1 + i * 2 + 1,none⟩ = some (.string x1) ∧ w'.cell? ⟨b2,off2 + i * 2,none⟩ = some (.string n2) ∧ w'.cell? ⟨b2,off2 + i * 2 + 1,none⟩ = some (.string x2))
              (first
                | go_keep
                | assumption)
              (first
                | fail)
            go_wp2_with (fail)
            go_ret
            exact ⟨by rw [hsd.out]; rfl,hbw.trans ((Below.refl _ wr).drew.mono (by have:=hbw.size; omega))⟩
          · have hsd : M3.sameA (a.drop i) (b.drop i) = M3.sameA (a.drop (i + 1)) (b.drop (i + 1)):=by rw [hsd,q1,q2,he1,he2]; rfl
            clear q1 q2
            replace hsd:=Lib.hid (hv.out.trans hsd)
            clear hv
            go_wp2_with (fail)
            go_region_held3 (fun w' => w'.cell? ⟨b1,off1 + i * 2,none⟩ = some (.string n1) ∧ w'.cell? ⟨b1,off1 + i * 2 + 1,none⟩ = some (.string x1) ∧ w'.cell? ⟨b2,off2 + i * 2,none⟩ = some (.string n2) ∧ w'.cell? ⟨b2,off2 + i * 2 + 1,none⟩ = some (.string x2))
              (first
                | go_keep
                | assumption)
              (first
                | fail)
            go_wp2_with (fail)
            go_roundw
            case rel => exact ⟨i + 1,by omega,by go_num,hsd.out,hbw.trans ((Below.refl _ wr).drew.mono (by have:=hbw.size; omega))⟩
            case measure => simp [intOf]; omega
      · obtain rfl : i = a.length:=by omega
        have hs : Hid (M3.sameA a b = true):=by
          show _ = _
          rw [hv.out,List.drop_length,hne.out,List.drop_length]; rfl
        clear hv
        go_wp2
        go_ret
        exact ⟨by rw [hs.out]; rfl,hbw⟩
  · have hs : Hid (M3.sameA a b = false):=M3.sameA_len a b hne
    have hz : ((a.length : Int) == (b.length : Int)) = false:=by simpa using fun h => hne (by omega)
    go_enter Tryz.func79,Tryz.ntmps79
    go_wp2
    go_ret
    exact ⟨by rw [hs.out]; rfl,Below.refl _ _⟩
end Go.Proofs.YteefodibpjgicaaGreat

namespace Go.Proofs.YteefodibpjgicaaGreat
open Go.RowKit
def SamePost (r : Bool) (w : World) (e : Ending) (w' : World) : Prop:=e = .returned (.bool r) ∧ Below w.heap.size w w'
set_option maxHeartbeats 4000000 in
set_option maxRecDepth 100000 in
theorem domAlike (S : Nat → Prop) (x y : Nd) (va vk vb vl : Value) (w : World) (hS : ∀ b,S b → b < w.heap.size) (hx : RepV S w x va vk) (hy : RepV S w y vb vl)
    (ih : ∀ W,Below w.heap.size w W → Calls Tryz.prog 38 #[vk,vl] W (SamePost (M3.sameN x.kids y.kids) W)) :
    Calls Tryz.prog 57 #[x.val va vk,y.val vb vl] w (SamePost (oneSame x y) w):=by
  obtain ⟨a1,c1,rfl⟩:=hx.at_.slice
  obtain ⟨a2,c2,rfl⟩:=hx.kids.slice
  obtain ⟨a3,c3,rfl⟩:=hy.at_.slice
  obtain ⟨a4,c4,rfl⟩:=hy.kids.slice
  have hsame : oneSame x y = (x.kind == y.kind && (x.name.toList == y.name.toList) && (x.text.toList == y.text.toList) && M3.sameA x.attrs y.attrs && M3.sameN x.kids y.kids):=rfl
  have hB : Below w.heap.size w ((w.alloc (.cells (x.cells (.slice a1 x.attrs.length c1) (.slice a2 x.kids.length c2)).toArray 41)).alloc (.cells (y.cells (.slice a3 y.attrs.length c3) (.slice a4 y.kids.length c4)).toArray 41)):=((Below.refl _ w).alloc (Nat.le_refl _) _).alloc (by simp) _
  have hq:=Lib.hid (fun W (hW : Below w.heap.size w W) => slEqual S x.attrs y.attrs _ _ W (fun b h => by have:=hS b h; have:=hW.size; omega) (hx.at_.below hS hW) (hy.at_.below hS hW))
  have b0:=(Box.new w 41 (x.cells (.slice a1 x.attrs.length c1) (.slice a2 x.kids.length c2))).alloc (.cells (y.cells (.slice a3 y.attrs.length c3) (.slice a4 y.kids.length c4)).toArray 41)
  have b1:=Box.new (w.alloc (.cells (x.cells (.slice a1 x.attrs.length c1) (.slice a2 x.kids.length c2)).toArray 41)) 41 (y.cells (.slice a3 y.attrs.length c3) (.slice a4 y.kids.length c4))
  simp only [World.size_alloc] at b1
  replace ih:=Lib.hid ih
  obtain ⟨r1,hr1⟩ : ∃ r1,M3.sameA x.attrs y.attrs = r1:=⟨_,rfl⟩
  obtain ⟨r2,hr2⟩ : ∃ r2,M3.sameN x.kids y.kids = r2:=⟨_,rfl⟩
  rw [hr1] at hsame hq
  rw [hr2] at hsame ih
  clear hr1 hr2
  clear hx hy hS
  cases x with | mk k1 n1 ats1 t1 ks1 =>
  cases y with | mk k2 n2 ats2 t2 ks2 =>
  simp only [Nd.kind,Nd.name,Nd.text,Nd.attrs,Nd.kids,Nd.cells,Nd.val] at *
  cases he1 : (k1 == k2)
  · have hs : Hid (oneSame (.mk k1 n1 ats1 t1 ks1) (.mk k2 n2 ats2 t2 ks2) = false):=by show _ = _; rw [hsame,he1]; rfl
    have he : decide (k1 = k2) = false:=by simpa using he1
    clear hsame
    go_enter Tryz.func57,Tryz.ntmps57
    go_wp2_with (fail)
    go_ret
    exact ⟨by rw [hs.out]; rfl,hB⟩
  · have he : k1 = k2:=by simpa using he1
    subst he
    cases he2 : (n1.toList == n2.toList)
    · have hs : Hid (oneSame (.mk k1 n1 ats1 t1 ks1) (.mk k1 n2 ats2 t2 ks2) = false):=by show _ = _; rw [hsame,he1,he2]; rfl
      clear hsame
      go_enter Tryz.func57,Tryz.ntmps57
      go_wp2_with (fail)
      go_ret
      exact ⟨by rw [hs.out]; rfl,hB⟩
    · cases he3 : (t1.toList == t2.toList)
      · have hs : Hid (oneSame (.mk k1 n1 ats1 t1 ks1) (.mk k1 n2 ats2 t2 ks2) = false):=by show _ = _; rw [hsame,he1,he2,he3]; rfl
        clear hsame
        go_enter Tryz.func57,Tryz.ntmps57
        go_wp2_with (fail)
        go_ret
        exact ⟨by rw [hs.out]; rfl,hB⟩
      · rw [he1,he2,he3] at hsame
        replace hsame:=Lib.hid hsame
        go_enter Tryz.func57,Tryz.ntmps57
        go_wp2_with (fail)
        refine (hq.out _ hB).mono ?_
        rintro e w1 ⟨rfl,hb1⟩
        have e0:=b0.below hb1 b0.lt
        have e1:=b1.below hb1 b1.lt
        have d0:=e0.cell (i:=4) rfl
        have d1:=e1.cell (i:=4) rfl
        have hB1:=hB.trans (hb1.mono (by simp; omega))
        clear b0 b1 e0 e1 hq
        cases r1
        · go_wp2_with (fail)
          go_ret
          exact ⟨by rw [hsame.out]; rfl,hB1⟩
        · go_wp2_with (fail)
          refine (ih.out _ hB1).mono ?_
          rintro e w2 ⟨rfl,hb2⟩
          have hz1:=hB1.size
          go_wp2_with (fail)
          go_ret
          exact ⟨by rw [hsame.out]; cases r2 <;> rfl,hB1.trans (hb2.mono hz1)⟩
end Go.Proofs.YteefodibpjgicaaGreat

namespace Go.Proofs.YteefodibpjgicaaGreat
open Go.RowKit
def Alikes (S : Nat → Prop) (a : List Nd) : Prop:=∀ x ∈ a,∀ (y : Nd) (va vk vb vl : Value) (W : World),(∀ b,S b → b < W.heap.size) → RepV S W x va vk → RepV S W y vb vl → Calls Tryz.prog 57 #[x.val va vk,y.val vb vl] W (SamePost (oneSame x y) W)
set_option maxHeartbeats 4000000 in
set_option maxRecDepth 100000 in
theorem slEqualFunc (S : Nat → Prop) (a b : List Nd) (va vb : Value) (w : World) (hS : ∀ b,S b → b < w.heap.size) (ha : RepN S w va a) (hb : RepN S w vb b) (hal : Alikes S a) :
    Calls Tryz.prog 56 #[va,vb,.func (.func 57) #[] #[]] w (SamePost (M3.sameN a b) w):=by
  obtain ⟨a1,cap1,rfl⟩:=ha.slice
  obtain ⟨a2,cap2,rfl⟩:=hb.slice
  obtain ⟨_,hl1,hm1⟩:=ha.len
  obtain ⟨_,hl2,hm2⟩:=hb.len
  replace hal:=Lib.hid hal
  by_cases hne : a.length = b.length
  · have hz : ((a.length : Int) == (b.length : Int)) = true:=by simp [hne]
    have h0 : Hid (M3.sameN a b = M3.sameN (a.drop 0) (b.drop 0)):=rfl
    replace hne:=Lib.hid hne
    go_enter Tryz.func56,Tryz.ntmps56
    go_wp2
    go_loopw [17] (fun u17 wr => ∃ i : Nat,i ≤ a.length ∧ u17 = .int .i64 (i : Int) ∧ Hid (M3.sameN a b = M3.sameN (a.drop i) (b.drop i)) ∧ Below w.heap.size w wr) (fun u17 _ => a.length - (intOf u17).toNat)
    case atStart => exact ⟨0,by omega,rfl,h0,Below.refl _ _⟩
    case round =>
      obtain ⟨i,hi,rfl,hv,hbw⟩:=hrel
      clear h0
      have hzw:=hbw.size
      by_cases hlt : i < a.length
      · have hlt2 : i < b.length:=by have:=hne.out; omega
        have hI0 : (0 : Int) ≤ (i : Int):=by omega
        have hI1 : (i : Int) < (a.length : Int):=by omega
        have hI2 : (i : Int) < (b.length : Int):=by omega
        obtain ⟨b1,off1,va,vk,rfl,hS1,c0,c1,c2,c3,c4,hrx⟩:=(ha.below hS hbw).at_ i hlt
        obtain ⟨b2,off2,vb,vl,rfl,hS2,d0,d1,d2,d3,d4,hry⟩:=(hb.below hS hbw).at_ i hlt2
        have hsd:=sameN_drop a b i hlt hlt2
        have hax:=hal.out a[i] (List.getElem_mem hlt)
        generalize a[i] = x at *
        generalize b[i] = y at *
        obtain ⟨a5,c5,rfl⟩:=hrx.at_.slice
        obtain ⟨a6,c6,rfl⟩:=hrx.kids.slice
        obtain ⟨a7,c7,rfl⟩:=hry.at_.slice
        obtain ⟨a8,c8,rfl⟩:=hry.kids.slice
        have hx1:=(Below.refl wr.heap.size wr).alloc (Nat.le_refl _) (.cells (x.cells (.slice a5 x.attrs.length c5) (.slice a6 x.kids.length c6)).toArray 41)
        have hl2 : b2 < wr.heap.size:=by have:=hS b2 hS2; omega
        have d0':=(hx1.cell (p:=⟨b2,off2 + i * 5,none⟩) hl2).trans d0
        have d1':=(hx1.cell (p:=⟨b2,off2 + i * 5 + 1,none⟩) hl2).trans d1
        have d2':=(hx1.cell (p:=⟨b2,off2 + i * 5 + 2,none⟩) hl2).trans d2
        have d3':=(hx1.cell (p:=⟨b2,off2 + i * 5 + 3,none⟩) hl2).trans d3
        have d4':=(hx1.cell (p:=⟨b2,off2 + i * 5 + 4,none⟩) hl2).trans d4
        have hB2:=hx1.alloc (by simp) (.cells (y.cells (.slice a7 y.attrs.length c7) (.slice a8 y.kids.length c8)).toArray 41)
        have hcall:=Lib.hid (hax y _ _ _ _ ((wr.alloc (.cells (x.cells (.slice a5 x.attrs.length c5) (.slice a6 x.kids.length c6)).toArray 41)).alloc (.cells (y.cells (.slice a7 y.attrs.length c7) (.slice a8 y.kids.length c8)).toArray 41)) (fun b h => by have:=hS b h; have:=hB2.size; omega) (RepV.below (w:=wr) (B:=wr.heap.size) hrx (fun b h => by have:=hS b h; omega) hB2) (RepV.below (w:=wr) (B:=wr.heap.size) hry (fun b h => by have:=hS b h; omega) hB2))
        replace hsd:=Lib.hid (hv.out.trans hsd)
        generalize oneSame x y = r at *
        clear hax hv hrx hry
        go_wp2_with (fail)
        refine hcall.out.mono ?_
        rintro e w2 ⟨rfl,hb2⟩
        have hbr : Below wr.heap.size wr w2:=hB2.trans (hb2.mono (by simp; omega))
        clear c0 c1 c2 c3 c4 d0 d1 d2 d3 d4 d0' d1' d2' d3' d4' hcall
        cases r
        · go_wp2_with (fail)
          go_ret
          exact ⟨by rw [hsd.out]; rfl,hbw.trans (hbr.mono hzw)⟩
        · go_wp2_with (fail)
          go_roundw
          case rel => exact ⟨i + 1,by omega,by go_num,by rw [hsd.out]; rfl,hbw.trans (hbr.mono hzw)⟩
          case measure => simp [intOf]; omega
      · obtain rfl : i = a.length:=by omega
        have hs : Hid (M3.sameN a b = true):=by
          show _ = _
          rw [hv.out,List.drop_length,hne.out,List.drop_length]; exact M3.sameN_nil
        clear hv
        go_wp2
        go_ret
        exact ⟨by rw [hs.out]; rfl,hbw⟩
  · have hs : Hid (M3.sameN a b = false):=M3.sameN_len a b hne
    have hz : ((a.length : Int) == (b.length : Int)) = false:=by simpa using fun h => hne (by omega)
    go_enter Tryz.func56,Tryz.ntmps56
    go_wp2
    go_ret
    exact ⟨by rw [hs.out]; rfl,Below.refl _ _⟩
set_option maxHeartbeats 1000000 in
theorem domSame (wt : Nat) : ∀ (S : Nat → Prop) (a b : List Nd) (va vb : Value) (w : World),M3.weight a < wt → (∀ b,S b → b < w.heap.size) → RepN S w va a → RepN S w vb b → Calls Tryz.prog 38 #[va,vb] w (SamePost (M3.sameN a b) w):=by
  induction wt with
  | zero => intro S a b va vb w h; omega
  | succ wt ih =>
    intro S a b va vb w hwt hS ha hb
    have hE:=Lib.hid (slEqualFunc S a b va vb w hS ha hb (fun x hx y va vk vb vl W hSW hrx hry => domAlike S x y va vk vb vl W hSW hrx hry (fun W2 hW2 => ih S x.kids y.kids vk vl W2 (by have:=weight_mem hx; omega) (fun b h => by have:=hSW b h; have:=hW2.size; omega) (hrx.kids.below hSW hW2) (hry.kids.below hSW hW2))))
    obtain ⟨a1,cap1,rfl⟩:=ha.slice
    obtain ⟨a2,cap2,rfl⟩:=hb.slice
    clear ih
    go_enter Tryz.func38,Tryz.ntmps38
    go_wp2_with (fail)
    refine hE.out.mono ?_
    rintro e w1 ⟨rfl,hb1⟩
    go_wp2
    go_ret
    exact ⟨rfl,hb1⟩
end Go.Proofs.YteefodibpjgicaaGreat
