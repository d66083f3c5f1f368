/- Texts joined: Ref03h. -/
import Derived.Outline
import Derived.Deep.CutRange
import Derived.Test.YteefodibpjgicaaGreatA21
import Derived.Test.YteefodibpjgicaaGreatA23
import Derived.Test.YteefodibpjgicaaGreatA24
namespace Go.Proofs.YteefodibpjgicaaGreat
open Go.RowKit
def Sm1 (x : Nd) : Prop:=x.name.size ≤ 30 ∧ x.text.size ≤ 30 ∧ ∀ a ∈ x.attrs,a.name.size ≤ 30 ∧ a.value.size ≤ 30
def Sm30 : List Nd → Prop
  | [] => True
  | .mk k n a t ks :: r => Sm1 (.mk k n a t ks) ∧ Sm30 ks ∧ Sm30 r
termination_by l => SizeOf.sizeOf l
theorem sm_nil : Sm30 []:=by rw [Sm30]; trivial
theorem sm_cons {x : Nd} {r : List Nd} : Sm30 (x :: r) ↔ Sm1 x ∧ Sm30 x.kids ∧ Sm30 r:=by cases x; rw [Sm30]; rfl
theorem sm_iff {l : List Nd} : Sm30 l ↔ ∀ x ∈ l,Sm1 x ∧ Sm30 x.kids:=by
  induction l with
  | nil => simp [sm_nil]
  | cons x r ih => rw [sm_cons,ih]; simp; exact ⟨fun h => ⟨⟨h.1,h.2.1⟩,h.2.2⟩,fun h => ⟨h.1.1,h.1.2,h.2⟩⟩
theorem cut_sm (l : List Nd) : ∀ m,Sm30 (M3.cut l m).1:=by
  induction l using Nd.ind with
  | h0 => intro m; rw [M3.cut_nil]; exact sm_nil
  | h1 k n ats t ks r ih1 ih2 =>
    intro m
    cases m with
    | zero => rw [M3.cut_zero]; exact sm_nil
    | succ m =>
      rw [M3.cut_cons]
      refine sm_cons.2 ⟨⟨few_size _,few_size _,fun a ha => ?_⟩,ih1 _,ih2 _⟩
      obtain ⟨b,_,rfl⟩:=List.mem_map.1 ha
      exact ⟨few_size _,few_size _⟩
theorem few_sm (l : List Nd) : Sm30 (fewN l):=cut_sm l 40
theorem good_len (l : List Nd) : (M3.goodN l).length = l.length:=by rw [M3.goodN_map,List.length_map]
theorem good_weight (l : List Nd) : M3.weight (M3.goodN l) ≤ M3.weight l:=by
  induction l using Nd.ind with
  | h0 => rw [M3.goodN_nil]; exact Nat.le_refl _
  | h1 k n ats t ks r ih1 ih2 =>
    rw [M3.goodN_cons,M3.weight_cons,M3.weight_cons,M3.good1_mk]
    have h1:=M3.goodA_len ats
    have h2:=weight_merge (M3.goodN ks)
    show _ ≤ 1 + ats.length + M3.weight ks + M3.weight r
    split
    · show 1 + (M3.goodA ats).length + M3.weight (M3.merge (M3.goodN ks)) + _ ≤ _; omega
    · show 1 + 0 + M3.weight [] + _ ≤ _; rw [M3.weight_nil]; omega
theorem good_texts (l : List Nd) (h : Sm30 l) : ∀ x ∈ M3.goodN l,x.text.size ≤ 120:=by
  intro x hx
  rw [M3.goodN_map] at hx
  obtain ⟨y,hy,rfl⟩:=List.mem_map.1 hx
  have:=(sm_iff.1 h y hy).1.2.1
  unfold M3.good1
  split
  · show (⟨#[]⟩ : ByteArray).size ≤ _; decide
  · show (M3.rightN y.text).size ≤ _; have:=M3.rightN_size y.text; omega
theorem good_txt (l : List Nd) (h : Sm30 l) : txtN (M3.goodN l) ≤ l.length * 120:=by
  have:=txtN_fit _ 120 (good_texts l h)
  rwa [good_len] at this
def AttI (wr : World) (av a1 a2 : ByteArray) (f : Nat → Bool) (t : Nat → Value) (W : World) : Prop :=
  Below wr.heap.size wr W ∧ (f 19 = true → f 23 = false → Sl W (t 19) (u8s av.data.toList)) ∧ (f 23 = true → f 22 = true ∧ f 20 = true) ∧
    (f 22 = true → ∃ ga,t 22 = .pointer (some ⟨ga,0,none⟩) ∧ wr.heap.size ≤ ga ∧ Box W ga 43 (bif f 23 then [.string a1,.string a2] else [.string ⟨#[]⟩,.string ⟨#[]⟩]))
theorem AttI.start (wr : World) (av a1 a2 : ByteArray) (t : Nat → Value) {f : Nat → Bool} (h1 : f 19 = false) (h2 : f 22 = false) (h3 : f 23 = false) : AttI wr av a1 a2 f t wr.drew :=
  ⟨(Below.refl _ _).drew,(fun h => by rw [h1] at h; cases h),(fun h => by rw [h3] at h; cases h),(fun h => by rw [h2] at h; cases h)⟩
theorem AttI.next {wr W W' : World} {av a1 a2 : ByteArray} {f : Nat → Bool} {t : Nat → Value} (h : AttI wr av a1 a2 f t W) (hb : Below W.heap.size W W') : AttI wr av a1 a2 f t W':=by
  obtain ⟨h1,h2,h3,h4⟩:=h
  refine ⟨h1.trans (hb.mono h1.size),fun hf hg => (h2 hf hg).below hb,h3,fun hf => ?_⟩
  obtain ⟨ga,e,hg,hbx⟩:=h4 hf
  exact ⟨ga,e,hg,hbx.below hb hbx.lt⟩
theorem AttI.conv {wr W : World} {av a1 a2 : ByteArray} {f : Nat → Bool} {t : Nat → Value} {x : Value} (h : AttI wr av a1 a2 f t W) (hs : Sl W x (u8s av.data.toList)) : AttI wr av a1 a2 (updF f 19) (updT t 19 x) W :=
  ⟨h.1,fun _ _ => by rw [updT_same]; exact hs,h.2.2.1,h.2.2.2⟩
theorem AttI.right {wr W : World} {av a1 a2 : ByteArray} {f : Nat → Bool} {t : Nat → Value} {x : Value} (h : AttI wr av a1 a2 f t W) : AttI wr av a1 a2 (updF f 20) (updT t 20 x) W :=
  ⟨h.1,h.2.1,fun hf => ⟨(h.2.2.1 hf).1,updF_same _ _⟩,h.2.2.2⟩
theorem AttI.made {wr W : World} {av a1 a2 : ByteArray} {f : Nat → Bool} {t : Nat → Value} (h : AttI wr av a1 a2 f t W) (hf : f 22 = false) :
    AttI wr av a1 a2 (updF f 22) (updT t 22 (.pointer (some ⟨W.heap.size,0,none⟩))) (W.alloc (.cells #[.string ⟨#[]⟩,.string ⟨#[]⟩] 43)):=by
  have h23 : f 23 = false:=by
    cases h2 : f 23
    · rfl
    · rw [(h.2.2.1 h2).1] at hf; cases hf
  have hb : Below W.heap.size W (W.alloc (.cells #[.string ⟨#[]⟩,.string ⟨#[]⟩] 43)):=(Below.refl _ _).alloc (Nat.le_refl _) _
  have hn:=h.next hb
  refine ⟨hn.1,hn.2.1,fun h => ⟨updF_same _ _,(hn.2.2.1 h).2⟩,fun _ => ⟨W.heap.size,rfl,h.1.size,?_⟩⟩
  rw [updF_ne f (by decide),h23]
  exact Box.new W 43 [.string ⟨#[]⟩,.string ⟨#[]⟩]
theorem AttI.put {wr W : World} {av a1 a2 : ByteArray} {f : Nat → Bool} {t : Nat → Value} {ga : Nat} {v : Value} (h : AttI wr av a1 a2 f t W) (hf : f 22 = true) (hf2 : f 20 = true) (ht : t 22 = .pointer (some ⟨ga,0,none⟩)) (hg : wr.heap.size ≤ ga) (hbx : Box W ga 43 [.string ⟨#[]⟩,.string ⟨#[]⟩]) :
    AttI wr av a1 a2 (updF f 23) (updT t 23 v) ((W.setCell ⟨ga,0,none⟩ (.string a1)).setCell ⟨ga,1,none⟩ (.string a2)):=by
  refine ⟨(h.1.setCell (p:=⟨ga,0,none⟩) hg _).setCell (p:=⟨ga,1,none⟩) hg _,(fun _ hf23 => by rw [updF_same] at hf23; cases hf23),fun _ => ⟨by rw [updF_ne f (by decide)]; exact hf,by rw [updF_ne f (by decide)]; exact hf2⟩,fun _ => ⟨ga,by rw [updT_ne t v (by decide)]; exact ht,hg,?_⟩⟩
  rw [updF_same]
  exact (hbx.set 0 (.string a1)).set 1 (.string a2)
theorem cell_of_below {B : Nat} {w w' : World} (hb : Below B w w') {b o : Nat} {v : Value} (h : w.cell? ⟨b,o,none⟩ = some v) (hlt : b < B) : w'.cell? ⟨b,o,none⟩ = some v:=(hb.cell (p:=⟨b,o,none⟩) hlt).trans h
set_option maxHeartbeats 8000000 in
set_option maxRecDepth 100000 in
theorem ref03good (wt : Nat) : ∀ (S : Nat → Prop) (v : Value) (l : List Nd) (w : World),M3.weight l < wt → M3.weight l ≤ 1000000 → Sm30 l → (∀ b,S b → b < w.heap.size) → RepN S w v l →
    Calls Tryz.prog 34 #[v] w (FreshPost (M3.good l) w):=by
  induction wt with
  | zero => intro S v l w h; omega
  | succ wt ih =>
  intro S v l w hwt hw6 hsm hS hr
  have hll:=M3.length_le_weight l
  obtain ⟨a,cap,rfl⟩:=hr.slice
  obtain ⟨_,hlc,hcm⟩:=hr.len
  replace ih:=Lib.hid ih
  replace hsm:=Lib.hid hsm
  go_enter Tryz.func34,Tryz.ntmps34
  go_wp2_with fail
  go_loopw [3,4,5,6,7,8,9] (fun u3 u4 _ _ _ _ _ wr => ∃ i : Nat,i ≤ l.length ∧ u4 = .int .i64 (i : Int) ∧ Fresh wr w.heap.size u3 (M3.goodN (l.take i)) ∧ Below w.heap.size w wr) (fun _ u4 _ _ _ _ _ _ => l.length - (intOf u4).toNat)
  case atStart => exact ⟨0,by omega,rfl,by rw [List.take_zero,M3.goodN_nil]; exact Fresh.nil _ _,Below.refl _ _⟩
  case round =>
    obtain ⟨i,hi,rfl,hf,hb⟩:=hrel
    have hz:=hb.size
    by_cases hlt : i < l.length
    · obtain ⟨b,off,va,vk,rfl,hSb,c0,c1,c2,c3,c4,hrv⟩:=(hr.below hS hb).at_ i hlt
      have hbl:=hS b hSb
      obtain ⟨hs1,hs2⟩:=sm_iff.1 hsm.out _ (List.getElem_mem hlt)
      have hwk:=weight_mem (List.getElem_mem hlt)
      have hwx:=weight_le (List.getElem_mem hlt)
      have hgt : M3.goodN (l.take (i + 1)) = M3.goodN (l.take i) ++ [M3.good1 l[i]]:=by rw [List.take_succ_eq_append_getElem hlt,M3.goodN_map,M3.goodN_map,List.map_append]; rfl
      have hAl : (M3.goodN (l.take i)).length ≤ 1000000:=by rw [good_len]; have:=List.length_take_le i l; omega
      generalize l[i] = x at *
      replace hgt:=Lib.hid hgt
      generalize hA : M3.goodN (l.take i) = A at *
      replace hA:=Lib.hid hA
      obtain ⟨a1,e1,rfl⟩:=hrv.at_.slice
      obtain ⟨a2,e2,rfl⟩:=hrv.kids.slice
      have hI0 : (0 : Int) ≤ (i : Int):=by omega
      have hI1 : (i : Int) < (l.length : Int):=by omega
      obtain ⟨wo,rfl⟩ : ∃ wo : World,wo = wr:=⟨_,rfl⟩
      cases x with | mk kd n ats t ks =>
      simp only [Nd.kind,Nd.name,Nd.text,Nd.attrs,Nd.kids] at *
      have hat0 : Row S wo 2 (.slice a1 ats.length e1) ats.length (cellsA ats):=hrv.at_
      have hkd0 : RepN S wo (.slice a2 ks.length e2) ks:=hrv.kids
      replace hkd0:=Lib.hid hkd0
      clear hrv
      obtain ⟨zs,F,hownA,hocA,hspA⟩:=hf
      replace hocA:=Lib.hid hocA
      replace hspA:=Lib.hid hspA
      have hg1:=M3.good1_mk kd n ats t ks
      have hts : t.size ≤ 30:=hs1.2.1
      have hns : n.size ≤ 30:=hs1.1
      have has : ∀ a ∈ ats,a.name.size ≤ 30 ∧ a.value.size ≤ 30:=hs1.2.2
      replace has:=Lib.hid has
      have hblo : b < wo.heap.size:=by omega
      by_cases hk1 : M3.kindN kd = 1
      · rw [if_pos hk1] at hg1
        have hkq : Hid ((decide (kd < 1) || decide (3 < kd)) = true ∨ kd = 1):=by
          show _ ∨ _
          unfold M3.kindN at hk1
          by_cases h : kd < 1 ∨ 3 < kd
          · left; simpa using h
          · right; rw [if_neg h] at hk1; exact hk1
        go_upto_region 6 with (fail)
        go_cut [29] from 10 to 110 (fun s29 wx => s29 = .bool (decide (kd < 1) || decide (3 < kd)) ∧ wx = wo.alloc (.cells #[.int .i64 kd,.string ⟨#[]⟩,.slice none 0 0,.string ⟨#[]⟩,.slice none 0 0] 41))
        case first =>
          by_cases h1 : kd < 1
          · go_wp2_with fail
            go_meet
            case rel => exact ⟨by rw [show decide (kd < 1) = true from decide_eq_true (by omega)]; rfl,rfl⟩
          · go_wp2_with fail
            go_meet
            case rel => exact ⟨by rw [show decide (kd < 1) = false from decide_eq_false (by omega)]; rfl,rfl⟩
        case rest =>
          obtain ⟨rfl,rfl⟩:=hcut
          go_upto_if 29 with (fail)
          go_cut [] from 10 to 110 (fun wx => wx = wo.alloc (.cells #[.int .i64 1,.string ⟨#[]⟩,.slice none 0 0,.string ⟨#[]⟩,.slice none 0 0] 41))
          case first =>
            generalize hq : (decide (kd < 1) || decide (3 < kd)) = q at *
            cases q
            · obtain rfl : kd = 1:=by rcases hkq.out with h | h; cases h; exact h
              go_wp2_with fail
              go_meet
              case rel => rfl
            · go_wp2_with fail
              go_meet
              case rel => rfl
          case rest =>
            have hbx1:=Box.new wo 41 [.int .i64 1,.string ⟨#[]⟩,.slice none 0 0,.string ⟨#[]⟩,.slice none 0 0]
            have hbo1 : Below wo.heap.size wo (wo.alloc (.cells #[.int .i64 1,.string ⟨#[]⟩,.slice none 0 0,.string ⟨#[]⟩,.slice none 0 0] 41)):=(Below.refl _ _).alloc (Nat.le_refl _) _
            have hso : (wo.alloc (.cells #[.int .i64 1,.string ⟨#[]⟩,.slice none 0 0,.string ⟨#[]⟩,.slice none 0 0] 41)).heap.size = wo.heap.size + 1:=by simp
            change Box (wo.alloc (.cells #[.int .i64 1,.string ⟨#[]⟩,.slice none 0 0,.string ⟨#[]⟩,.slice none 0 0] 41)) _ _ _ at hbx1
            rw [← hcut] at hbx1 hbo1 hso
            clear hcut
            have r1:=(hbo1.cell (p:=⟨b,off + i * 5 + 1,none⟩) hblo).trans c1
            have q0:=hbx1.cell (i:=0) rfl
            have hWd:=Lib.hid (ref03Word n wc (by omega))
            have hwn:=M3.wordN_size n 30 hns (by omega)
            generalize M3.wordN n = nm at *
            replace hso:=Lib.hid hso
            go_wp2_with fail
            refine hWd.out.mono ?_
            rintro e w2 ⟨rfl,hb2⟩
            have hz2:=hb2.size
            have hbo2 : Below wo.heap.size wo w2:=hbo1.trans (hb2.mono (by have:=hso.out; omega))
            have hbx2:=hbx1.below hb2 hbx1.lt
            have d1:=hbx2.cell (i:=1) rfl
            have f1:=hbx2.free 1
            clear hWd hbx1 hbo1 hb2 q0 r1
            go_wp2_with fail
            have hbx3:=hbx2.set 1 (.string nm)
            have hbo3 : Below wo.heap.size wo (w2.setCell ⟨wo.heap.size,1,none⟩ (.string nm)):=hbo2.setCell (p:=⟨wo.heap.size,1,none⟩) (Nat.le_refl _) _
            simp only [List.set_cons_succ,List.set_cons_zero] at hbx3
            obtain ⟨W3,hW3⟩ : ∃ W3,w2.setCell ⟨wo.heap.size,1,none⟩ (.string nm) = W3:=⟨_,rfl⟩
            rw [hW3] at hbx3 hbo3 ⊢
            clear hW3 hbx2 hbo2 d1 f1
            go_loopw [6,7,8,9] (fun u6 _ _ _ wr => ∃ (k : Nat) (acc : List Att) (va : Value),k ≤ ats.length ∧ u6 = .int .i64 (k : Int) ∧ Box wr wo.heap.size 41 [.int .i64 1,.string nm,va,.string ⟨#[]⟩,.slice none 0 0] ∧ wr.ownsRow (wo.heap.size + 1) 43 2 va acc.length (cellsA acc) ∧ Hid (acc = M3.goodA (ats.take k)) ∧ Below wo.heap.size wo wr) (fun u6 _ _ _ _ => ats.length - (intOf u6).toNat)
            case atStart => exact ⟨0,[],_,by omega,rfl,hbx3,World.ownsRow_nil _ _ _ _,rfl,hbo3⟩
            case round =>
              obtain ⟨k,acc,va,hk,rfl,hbx,hown,hacc,hbo⟩:=hrel
              have hz3:=hbo.size
              have hgl:=hbx.lt
              have r2:=(hbo.cell (p:=⟨b,off + i * 5 + 2,none⟩) hblo).trans c2
              clear hbx3 hbo3
              by_cases hkl : k < ats.length
              · obtain ⟨ab,aoff,rfl,hSab,p0,p1⟩:=(hat0.below (fun c hc => by have:=hS c hc; omega) hbo).atA k hkl
                have habl:=hS ab hSab
                obtain ⟨hsa,hsv⟩:=has.out _ (List.getElem_mem hkl)
                have htk : M3.goodA (ats.take (k + 1)) = M3.addA (M3.goodA (ats.take k)) ats[k]:=by rw [List.take_succ_eq_append_getElem hkl,M3.goodA_snoc]
                have hacl : acc.length ≤ k:=by rw [hacc.out]; have:=M3.goodA_len (ats.take k); have:=List.length_take_le k ats; omega
                have hadd : M3.addA acc ats[k] = if (M3.valueOf (M3.attrN ats[k].name) acc).isSome then acc else acc ++ [⟨M3.attrN ats[k].name,M3.rightN ats[k].value⟩]:=rfl
                rw [← hacc.out,hadd] at htk
                clear hadd
                have hAt:=Lib.hid (fun W => ref03Attribute ats[k].name W (by omega))
                generalize ats[k].name = an at *
                generalize ats[k].value = av at *
                have hK0 : (0 : Int) ≤ (k : Int):=by omega
                have hK1 : (k : Int) < (ats.length : Int):=by omega
                replace htk:=Lib.hid htk
                go_upto_region 15 with (fail)
                refine wp_region_known (n:=24) ([some (.slice (some ⟨b,off,none⟩) l.length cap),some (.int .i64 (i : Int)),some (.pointer (some ⟨b,off + i * 5,none⟩)),some (.pointer (some ⟨b,off + i * 5 + 2,none⟩)),some (.slice (some ⟨ab,aoff,none⟩) ats.length e1),some (.int .i64 (k : Int)),some (.pointer (some ⟨ab,aoff + k * 2,none⟩)),some (.pointer (some ⟨ab,aoff + k * 2,none⟩)),some (.string an),some (.string (M3.attrN an)),some (.slice (some ⟨b,off,none⟩) l.length cap),some (.int .i64 (i : Int)),some (.pointer (some ⟨b,off + i * 5,none⟩)),some (.pointer (some ⟨b,off + i * 5 + 2,none⟩)),some (.slice (some ⟨ab,aoff,none⟩) ats.length e1),some (.int .i64 (k : Int)),some (.pointer (some ⟨ab,aoff + k * 2,none⟩)),some (.pointer (some ⟨ab,aoff + k * 2 + 1,none⟩)),some (.string av),none,some (.string ⟨(M1.right av.data.toList).toArray⟩),some (.agg #[.string (M3.attrN an),.string ⟨(M1.right av.data.toList).toArray⟩]),none,none] : List (Option Value)) (fun t => ⟨#[Value.slice (some { block:=b,off:=off }) l.length cap,undef,Value.slice none 0 0,u3,Value.int IntKind.i64 ↑i,Value.pointer (some { block:=wo.heap.size,off:=0 }),Value.int IntKind.i64 ↑k,t 22,u8,u9,u10,u11,u12,u13,u14,u15,u16,u17,u18,u19,u20,u21,u22,u23,u24,u25,u26,u27,u28,u29,u30,Value.pointer (some { block:=wo.heap.size,off:=0 }),Value.int IntKind.i64 1,Value.bool false,u34,u35,u36,u37,u38,u39,u40,u41,u42,u43,u44,u45,Value.slice (some { block:=b,off:=off }) l.length cap,Value.int IntKind.i64 ↑i,Value.pointer (some { block:=b,off:=off + i * 5 }),Value.pointer (some { block:=b,off:=off + i * 5 + 1 }),Value.string n,Value.string nm,Value.pointer (some { block:=wo.heap.size,off:=1 }),Value.int IntKind.i64 ↑k,Value.slice (some { block:=b,off:=off }) l.length cap,Value.int IntKind.i64 ↑i,Value.pointer (some { block:=b,off:=off + i * 5 }),Value.pointer (some { block:=b,off:=off + i * 5 + 2 }),Value.slice (some { block:=ab,off:=aoff }) ats.length e1,Value.int IntKind.i64 ↑ats.length,Value.bool true,u61,u62,t 0,t 1,t 2,t 3,t 4,t 5,t 6,t 7,t 8,t 9,t 10,t 11,t 12,t 13,t 14,t 15,t 16,t 17,t 18,t 19,t 20,t 21,u85,u86,u87,u88,u89,u90,u91,u92,u93,u94,u95,u96,u97,u98,u99,u100,u101,u102,u103,u104,u105,u106,u107,u108,u109,u110,undef,undef],[]⟩) (fun f t W => AttI wr av (M3.attrN an) ⟨(M1.right av.data.toList).toArray⟩ f t W) (fun j => match j with | 0 => u63 | 1 => u64 | 2 => u65 | 3 => u66 | 4 => u67 | 5 => u68 | 6 => u69 | 7 => u70 | 8 => u71 | 9 => u72 | 10 => u73 | 11 => u74 | 12 => u75 | 13 => u76 | 14 => u77 | 15 => u78 | 16 => u79 | 17 => u80 | 18 => u81 | 19 => u82 | 20 => u83 | 21 => u84 | 22 => u7 | _ => undef) (by kernel_rfl) (by rfl) (by rfl) (by kernel_rfl) rfl ?i0 ?step ?fin
                case i0 =>
                  exact AttI.start _ _ _ _ _ (by simp) (by simp) (by simp)
                case step =>
                  intro i hi f t W hfi hwt hk hI
                  have s0:=cell_of_below hI.1 r2 (by omega)
                  have s1:=cell_of_below hI.1 p0 (by omega)
                  have s2:=cell_of_below hI.1 p1 (by omega)
                  obtain rfl | rfl | rfl | rfl | rfl | rfl | rfl | rfl | rfl | rfl | rfl | rfl | rfl | rfl | rfl | rfl | rfl | rfl | rfl | rfl | rfl | rfl | rfl | rfl : i = 0 ∨ i = 1 ∨ i = 2 ∨ i = 3 ∨ i = 4 ∨ i = 5 ∨ i = 6 ∨ i = 7 ∨ i = 8 ∨ i = 9 ∨ i = 10 ∨ i = 11 ∨ i = 12 ∨ i = 13 ∨ i = 14 ∨ i = 15 ∨ i = 16 ∨ i = 17 ∨ i = 18 ∨ i = 19 ∨ i = 20 ∨ i = 21 ∨ i = 22 ∨ i = 23:=by omega
                  · -- operation 0
                    replace hI:=Lib.hid hI
                    replace hk:=Lib.hid hk
                    clear hwt
                    refine wpOp_step rfl (fun K hK => ?_)
                    go_simp
                    exact hK _ _ ⟨_,by simp [updT],hk.out.at_ rfl,hI.out⟩
                  · -- operation 1
                    replace hI:=Lib.hid hI
                    replace hk:=Lib.hid hk
                    clear hwt
                    refine wpOp_step rfl (fun K hK => ?_)
                    go_simp
                    exact hK _ _ ⟨_,by simp [updT],hk.out.at_ rfl,hI.out⟩
                  · -- operation 2
                    have e0 : t 0 = .slice (some ⟨b,off,none⟩) l.length cap:=hk 0 _ (hwt 0 (by kernel_rfl)) rfl
                    have e1 : t 1 = .int .i64 (i : Int):=hk 1 _ (hwt 1 (by kernel_rfl)) rfl
                    replace hI:=Lib.hid hI
                    replace hk:=Lib.hid hk
                    clear hwt
                    refine wpOp_step rfl (fun K hK => ?_)
                    go_simp
                    exact hK _ _ ⟨_,by simp [updT,e0,e1],hk.out.at_ rfl,hI.out⟩
                  · -- operation 3
                    have e2 : t 2 = .pointer (some ⟨b,off + i * 5,none⟩):=hk 2 _ (hwt 2 (by kernel_rfl)) rfl
                    replace hI:=Lib.hid hI
                    replace hk:=Lib.hid hk
                    clear hwt
                    refine wpOp_step rfl (fun K hK => ?_)
                    go_simp
                    exact hK _ _ ⟨_,by simp [updT,e2],hk.out.at_ rfl,hI.out⟩
                  · -- operation 4
                    have e3 : t 3 = .pointer (some ⟨b,off + i * 5 + 2,none⟩):=hk 3 _ (hwt 3 (by kernel_rfl)) rfl
                    replace hI:=Lib.hid hI
                    replace hk:=Lib.hid hk
                    clear hwt
                    refine wpOp_step rfl (fun K hK => ?_)
                    go_simp
                    exact hK _ _ ⟨_,by simp [updT,e3],hk.out.at_ rfl,hI.out⟩
                  · -- operation 5
                    replace hI:=Lib.hid hI
                    replace hk:=Lib.hid hk
                    clear hwt
                    refine wpOp_step rfl (fun K hK => ?_)
                    go_simp
                    exact hK _ _ ⟨_,by simp [updT],hk.out.at_ rfl,hI.out⟩
                  · -- operation 6
                    have e4 : t 4 = .slice (some ⟨ab,aoff,none⟩) ats.length e1:=hk 4 _ (hwt 4 (by kernel_rfl)) rfl
                    have e5 : t 5 = .int .i64 (k : Int):=hk 5 _ (hwt 5 (by kernel_rfl)) rfl
                    replace hI:=Lib.hid hI
                    replace hk:=Lib.hid hk
                    clear hwt
                    refine wpOp_step rfl (fun K hK => ?_)
                    go_simp
                    exact hK _ _ ⟨_,by simp [updT,e4,e5],hk.out.at_ rfl,hI.out⟩
                  · -- operation 7
                    have e6 : t 6 = .pointer (some ⟨ab,aoff + k * 2,none⟩):=hk 6 _ (hwt 6 (by kernel_rfl)) rfl
                    replace hI:=Lib.hid hI
                    replace hk:=Lib.hid hk
                    clear hwt
                    refine wpOp_step rfl (fun K hK => ?_)
                    go_simp
                    exact hK _ _ ⟨_,by simp [updT,e6],hk.out.at_ rfl,hI.out⟩
                  · -- operation 8
                    have e7 : t 7 = .pointer (some ⟨ab,aoff + k * 2,none⟩):=hk 7 _ (hwt 7 (by kernel_rfl)) rfl
                    replace hI:=Lib.hid hI
                    replace hk:=Lib.hid hk
                    clear hwt
                    refine wpOp_step rfl (fun K hK => ?_)
                    go_simp
                    exact hK _ _ ⟨_,by simp [updT,e7],hk.out.at_ rfl,hI.out⟩
                  · -- operation 9
                    have e8 : t 8 = .string an:=hk 8 _ (hwt 8 (by kernel_rfl)) rfl
                    replace hk:=Lib.hid hk
                    replace hI:=Lib.hid hI
                    clear hwt
                    refine wpOp_step rfl (fun K hK => ?_)
                    go_simp
                    refine (hAt.out _).mono ?_
                    rintro e w5 ⟨rfl,hb5⟩
                    exact hK _ _ ⟨_,by simp [updT,e8],hk.out.at_ rfl,hI.out.next hb5⟩
                  · -- operation 10
                    replace hI:=Lib.hid hI
                    replace hk:=Lib.hid hk
                    clear hwt
                    refine wpOp_step rfl (fun K hK => ?_)
                    go_simp
                    exact hK _ _ ⟨_,by simp [updT],hk.out.at_ rfl,hI.out⟩
                  · -- operation 11
                    replace hI:=Lib.hid hI
                    replace hk:=Lib.hid hk
                    clear hwt
                    refine wpOp_step rfl (fun K hK => ?_)
                    go_simp
                    exact hK _ _ ⟨_,by simp [updT],hk.out.at_ rfl,hI.out⟩
                  · -- operation 12
                    have e10 : t 10 = .slice (some ⟨b,off,none⟩) l.length cap:=hk 10 _ (hwt 10 (by kernel_rfl)) rfl
                    have e11 : t 11 = .int .i64 (i : Int):=hk 11 _ (hwt 11 (by kernel_rfl)) rfl
                    replace hI:=Lib.hid hI
                    replace hk:=Lib.hid hk
                    clear hwt
                    refine wpOp_step rfl (fun K hK => ?_)
                    go_simp
                    exact hK _ _ ⟨_,by simp [updT,e10,e11],hk.out.at_ rfl,hI.out⟩
                  · -- operation 13
                    have e12 : t 12 = .pointer (some ⟨b,off + i * 5,none⟩):=hk 12 _ (hwt 12 (by kernel_rfl)) rfl
                    replace hI:=Lib.hid hI
                    replace hk:=Lib.hid hk
                    clear hwt
                    refine wpOp_step rfl (fun K hK => ?_)
                    go_simp
                    exact hK _ _ ⟨_,by simp [updT,e12],hk.out.at_ rfl,hI.out⟩
                  · -- operation 14
                    have e13 : t 13 = .pointer (some ⟨b,off + i * 5 + 2,none⟩):=hk 13 _ (hwt 13 (by kernel_rfl)) rfl
                    replace hI:=Lib.hid hI
                    replace hk:=Lib.hid hk
                    clear hwt
                    refine wpOp_step rfl (fun K hK => ?_)
                    go_simp
                    exact hK _ _ ⟨_,by simp [updT,e13],hk.out.at_ rfl,hI.out⟩
                  · -- operation 15
                    replace hI:=Lib.hid hI
                    replace hk:=Lib.hid hk
                    clear hwt
                    refine wpOp_step rfl (fun K hK => ?_)
                    go_simp
                    exact hK _ _ ⟨_,by simp [updT],hk.out.at_ rfl,hI.out⟩
                  · -- operation 16
                    have e14 : t 14 = .slice (some ⟨ab,aoff,none⟩) ats.length e1:=hk 14 _ (hwt 14 (by kernel_rfl)) rfl
                    have e15 : t 15 = .int .i64 (k : Int):=hk 15 _ (hwt 15 (by kernel_rfl)) rfl
                    replace hI:=Lib.hid hI
                    replace hk:=Lib.hid hk
                    clear hwt
                    refine wpOp_step rfl (fun K hK => ?_)
                    go_simp
                    exact hK _ _ ⟨_,by simp [updT,e14,e15],hk.out.at_ rfl,hI.out⟩
                  · -- operation 17
                    have e16 : t 16 = .pointer (some ⟨ab,aoff + k * 2,none⟩):=hk 16 _ (hwt 16 (by kernel_rfl)) rfl
                    replace hI:=Lib.hid hI
                    replace hk:=Lib.hid hk
                    clear hwt
                    refine wpOp_step rfl (fun K hK => ?_)
                    go_simp
                    exact hK _ _ ⟨_,by simp [updT,e16],hk.out.at_ rfl,hI.out⟩
                  · -- operation 18
                    have e17 : t 17 = .pointer (some ⟨ab,aoff + k * 2 + 1,none⟩):=hk 17 _ (hwt 17 (by kernel_rfl)) rfl
                    replace hI:=Lib.hid hI
                    replace hk:=Lib.hid hk
                    clear hwt
                    refine wpOp_step rfl (fun K hK => ?_)
                    go_simp
                    exact hK _ _ ⟨_,by simp [updT,e17],hk.out.at_ rfl,hI.out⟩
                  · -- operation 19
                    have e18 : t 18 = .string av:=hk 18 _ (hwt 18 (by kernel_rfl)) rfl
                    replace hk:=Lib.hid hk
                    replace hI:=Lib.hid hI
                    clear hwt
                    obtain ⟨x1,w1,hc1,y1,b1⟩:=conv_bytes W av (by omega)
                    refine wpOp_step rfl (fun K hK => ?_)
                    go_simp
                    exact hK _ _ ⟨_,by simp [updT,e18],hk.out.free rfl,(hI.out.next b1).conv y1⟩
                  · -- operation 20
                    have hf23 : f 23 = false:=by
                      cases h2 : f 23
                      · rfl
                      · rw [(hI.2.2.1 h2).2] at hfi; cases hfi
                    have hsl:=hI.2.1 (hwt 19 (by kernel_rfl)) hf23
                    replace hf23:=Lib.hid hf23
                    have hR:=Lib.hid (ref01Right (t 19) av.data.toList W hsl (by show av.size ≤ _; omega))
                    replace hk:=Lib.hid hk
                    replace hI:=Lib.hid hI
                    clear hwt
                    refine wpOp_step rfl (fun K hK => ?_)
                    go_simp
                    refine hR.out.mono ?_
                    rintro e w5 ⟨rfl,hb5⟩
                    exact hK _ _ ⟨_,by simp [updT],hk.out.at_ rfl,(hI.out.next hb5).right⟩
                  · -- operation 21
                    have e9 : t 9 = .string (M3.attrN an):=hk 9 _ (hwt 9 (by kernel_rfl)) rfl
                    have e20 : t 20 = .string ⟨(M1.right av.data.toList).toArray⟩:=hk 20 _ (hwt 20 (by kernel_rfl)) rfl
                    replace hI:=Lib.hid hI
                    replace hk:=Lib.hid hk
                    clear hwt
                    refine wpOp_step rfl (fun K hK => ?_)
                    go_simp
                    exact hK _ _ ⟨_,by simp [updT,e9,e20],hk.out.at_ rfl,hI.out⟩
                  · -- operation 22
                    replace hk:=Lib.hid hk
                    replace hI:=Lib.hid hI
                    clear hwt
                    refine wpOp_step rfl (fun K hK => ?_)
                    go_simp
                    exact hK _ _ ⟨_,by simp [updT],hk.out.free rfl,hI.out.made hfi⟩
                  · -- operation 23
                    have e21 : t 21 = .agg #[.string (M3.attrN an),.string ⟨(M1.right av.data.toList).toArray⟩]:=hk 21 _ (hwt 21 (by kernel_rfl)) rfl
                    obtain ⟨ga,e22,hga,hbx⟩:=hI.2.2.2 (hwt 22 (by kernel_rfl))
                    rw [hfi] at hbx
                    change Box W ga _ [.string ⟨#[]⟩,.string ⟨#[]⟩] at hbx
                    have y0:=hbx.cell (i:=0) rfl
                    have y1:=hbx.cell (i:=1) rfl
                    have z0:=hbx.free 0
                    have z1:=hbx.free 1
                    have f22:=Lib.hid (hwt 22 (by kernel_rfl))
                    have f20:=Lib.hid (hwt 20 (by kernel_rfl))
                    replace hk:=Lib.hid hk
                    replace hI:=Lib.hid hI
                    clear hwt
                    refine wpOp_step rfl (fun K hK => ?_)
                    go_simp
                    exact hK _ _ ⟨undef,by simp [updT,e21,e22],hk.out.free rfl,hI.out.put f22.out f20.out e22 hga hbx⟩
                case fin =>
                  intro f t W hall hk hI
                  obtain ⟨ga,e22,hga,hba⟩:=hI.2.2.2 (hall 22 (by omega))
                  rw [hall 23 (by omega)] at hba
                  change Box W ga _ [.string (M3.attrN an),.string ⟨(M1.right av.data.toList).toArray⟩] at hba
                  have hB:=hI.1
                  clear hk hI hall hAt
                  dsimp only
                  rw [e22]
                  have hrr : (⟨(M1.right av.data.toList).toArray⟩ : ByteArray) = M3.rightN av:=rfl
                  rw [hrr] at hba
                  clear hrr p0 p1 r2 e22
                  generalize M3.attrN an = an2 at *
                  generalize M3.rightN av = av2 at *
                  have hbn:=hbx.below hB hgl
                  have hownW:=own_below3 hown hB
                  obtain ⟨a6,e6,rfl⟩:=own_slice hown
                  have n0:=hbn.cell (i:=0) rfl
                  have n1:=hbn.cell (i:=1) rfl
                  have n2:=hbn.cell (i:=2) rfl
                  have n3:=hbn.cell (i:=3) rfl
                  have n4:=hbn.cell (i:=4) rfl
                  have m0:=hba.cell (i:=0) rfl
                  have m1:=hba.cell (i:=1) rfl
                  have hrowW : Row (fun b => b < W.heap.size) W 2 (.slice a6 acc.length e6) acc.length (cellsA acc):=Row.own hownW (fun g hg => (hownW.lt g hg).2)
                  have hVl:=Lib.hid (ref03Value (fun b => b < W.heap.size) (.mk 1 nm acc ⟨#[]⟩ []) (.slice a6 acc.length e6) (.slice none 0 0) an2 W (fun _ h => h) hrowW ⟨_,_,_,rfl⟩)
                  have hboW : Below wo.heap.size wo W:=hbo.trans (hB.mono hz3)
                  replace hownW:=Lib.hid hownW
                  replace hown:=Lib.hid hown
                  clear hbx hrowW
                  obtain ⟨o,ho⟩ : ∃ o,M3.valueOf an2 acc = o:=⟨_,rfl⟩
                  change Hid (Calls Tryz.prog 49 #[Value.agg #[.int .i64 1,.string nm,.slice a6 acc.length e6,.string ⟨#[]⟩,.slice none 0 0],.string an2] W fun e w' => e = .returned (valAns (M3.valueOf an2 acc)) ∧ Below W.heap.size W w') at hVl
                  rw [ho] at hVl htk
                  clear ho
                  go_wp2_with fail
                  cases o with
                  | some sv =>
                    replace htk : Hid (M3.goodA (ats.take (k + 1)) = acc):=htk
                    change Hid (Calls Tryz.prog 49 #[Value.agg #[.int .i64 1,.string nm,.slice a6 acc.length e6,.string ⟨#[]⟩,.slice none 0 0],.string an2] W fun e w' => e = .returned (.tuple #[.string sv,.bool true]) ∧ Below W.heap.size W w') at hVl
                    refine hVl.out.mono ?_
                    rintro e w6 ⟨rfl,hb6⟩
                    have hbo6 : Below wo.heap.size wo w6:=hboW.trans (hb6.mono (by have:=hB.size; omega))
                    have hbn6:=hbn.below hb6 hbn.lt
                    have hown6:=own_below3 hownW.out hb6
                    clear hVl hbn hba n0 n1 n2 n3 n4 m0 m1
                    go_wp2_with fail
                    go_roundw
                    case rel => exact ⟨k + 1,acc,_,by omega,by go_num,hbn6,hown6,by show _ = _; rw [htk.out],hbo6⟩
                    case measure => exact meas_nat hkl
                  | none =>
                    replace htk : Hid (M3.goodA (ats.take (k + 1)) = acc ++ [⟨an2,av2⟩]):=htk
                    change Hid (Calls Tryz.prog 49 #[Value.agg #[.int .i64 1,.string nm,.slice a6 acc.length e6,.string ⟨#[]⟩,.slice none 0 0],.string an2] W fun e w' => e = .returned (.tuple #[.string ⟨#[]⟩,.bool false]) ∧ Below W.heap.size W w') at hVl
                    refine hVl.out.mono ?_
                    rintro e w6 ⟨rfl,hb6⟩
                    have hbo6 : Below wo.heap.size wo w6:=hboW.trans (hb6.mono (by have:=hB.size; omega))
                    have hbn6:=hbn.below hb6 hbn.lt
                    have hba6:=hba.below hb6 hba.lt
                    have hown6:=own_below3 hownW.out hb6
                    have hgl6:=hbn6.lt
                    clear hVl hbn hba n0 n1 n2 n3 n4 m0 m1
                    have n2:=hbn6.cell (i:=2) rfl
                    have m0:=hba6.cell (i:=0) rfl
                    have m1:=hba6.cell (i:=1) rfl
                    have hbo6z : wo.heap.size + 1 ≤ w6.heap.size:=by omega
                    go_wp2_with (at_builtin; refine wpList_appK _ [.string an2,.string av2] 2 rfl _ _ 39 43 rfl (wo.heap.size + 1) Tryz.underlying39 infoA rfl (by omega) _ acc.length (cellsA acc) rfl hown6 _ rfl rfl rfl (by simp [Value.oneCell']) (by omega) (by omega) hbo6z ?_; intro g cp w7 hown7 hgrow7 hat7; have hbn7:=hbn6.keep (hgrow7.block _ hgl6 (fun e => by have:=(hown6.lt _ e.symm).1; omega)); have k2:=hbn7.cell (i:=2) rfl; have kf2:=hbn7.free 2)
                    have hbo7 : Below wo.heap.size wo w7:=hbo6.grown hgrow7 (by omega) (fun k hk => by have:=(hown6.lt k hk).1; omega)
                    have hbn8:=hbn7.set 2 (.slice (some ⟨g,0,none⟩) (acc.length + 1) cp)
                    simp only [List.set_cons_succ,List.set_cons_zero] at hbn8
                    have hbo8 : Below wo.heap.size wo (w7.setCell ⟨wo.heap.size,2,none⟩ (.slice (some ⟨g,0,none⟩) (acc.length + 1) cp)):=hbo7.setCell (p:=⟨wo.heap.size,2,none⟩) (Nat.le_refl _) _
                    have hown8 : (w7.setCell ⟨wo.heap.size,2,none⟩ (.slice (some ⟨g,0,none⟩) (acc.length + 1) cp)).ownsRow (wo.heap.size + 1) 43 2 (.slice (some ⟨g,0,none⟩) (acc.length + 1) cp) (acc ++ ([⟨an2,av2⟩] : List Att)).length (cellsA (acc ++ ([⟨an2,av2⟩] : List Att))):=by
                      rw [cellsA_append,List.length_append]
                      exact own_keep hown7 (fun g' hg' => Below.heap_setCell _ _ _ _ (by have:=(hown7.lt g' hg').1; simp; omega))
                    clear hown7 hgrow7 hat7 k2 kf2
                    go_roundw
                    case rel => exact ⟨k + 1,acc ++ [⟨an2,av2⟩],_,by omega,by go_num,hbn8,hown8,by show _ = _; rw [htk.out],hbo8⟩
                    case measure => exact meas_nat hkl
              · obtain rfl : k = ats.length:=by omega
                rw [List.take_length] at hacc
                have hgg : M3.good1 (.mk kd n ats t ks) = .mk 1 nm acc ⟨#[]⟩ (M3.good ks):=by rw [hacc.out]; exact hg1
                rw [hgg] at hgt
                have hacl : acc.length ≤ ats.length:=by rw [hacc.out]; exact M3.goodA_len ats
                have r4:=(hbo.cell (p:=⟨b,off + i * 5 + 4,none⟩) hblo).trans c4
                obtain ⟨a6,e6,rfl⟩:=own_slice hown
                have hkw : M3.weight ks < wt:=by have h0 : M3.weight ks < M3.weight l:=hwk; omega
                have hkd:=Lib.hid (ih.out S (.slice a2 ks.length e2) ks wr hkw (by omega) hs2 (fun c hc => by have:=hS c hc; omega) (hkd0.out.below (fun c hc => by have:=hS c hc; omega) hbo))
                clear hg1 hgg hacc c0 c1 c2 c3 c4
                go_wp2_with fail
                refine hkd.out.mono ?_
                rintro e w6 ⟨vk6,rfl,⟨zk,Fk,hownk,hock,hspk⟩,hb6⟩
                obtain ⟨a7,e7,rfl⟩:=own_slice hownk
                have hbo6 : Below wo.heap.size wo w6:=hbo.trans (hb6.mono hz3)
                have hbn6:=hbx.below hb6 hgl
                have hgl6:=hbn6.lt
                have n0:=hbn6.cell (i:=0) rfl
                have n1:=hbn6.cell (i:=1) rfl
                have n2:=hbn6.cell (i:=2) rfl
                have n3:=hbn6.cell (i:=3) rfl
                have n4:=hbn6.cell (i:=4) rfl
                have nf4:=hbn6.free 4
                have hown6:=own_below3 hown hb6
                have hbo7 : Below wo.heap.size wo (w6.setCell ⟨wo.heap.size,4,none⟩ (.slice a7 (M3.good ks).length e7)):=hbo6.setCell (p:=⟨wo.heap.size,4,none⟩) (Nat.le_refl _) _
                have hsz7 : (w6.setCell ⟨wo.heap.size,4,none⟩ (.slice a7 (M3.good ks).length e7)).heap.size = w6.heap.size:=by simp [World.setCell]
                have hfar7 : ∀ c,c ≠ wo.heap.size → (w6.setCell ⟨wo.heap.size,4,none⟩ (.slice a7 (M3.good ks).length e7)).heap[c]? = w6.heap[c]?:=fun c hc => Below.heap_setCell _ _ _ _ (by simpa using hc)
                have hownA7:=own_below3 hownA hbo7
                have hsz8 : w.heap.size ≤ (w6.setCell ⟨wo.heap.size,4,none⟩ (.slice a7 (M3.good ks).length e7)).heap.size:=by omega
                have hown7:=own_keep hown6 (w':=w6.setCell ⟨wo.heap.size,4,none⟩ (.slice a7 (M3.good ks).length e7)) (fun g hg => hfar7 g (by have:=(hown6.lt g hg).1; omega))
                have hownk7:=own_keep hownk (w':=w6.setCell ⟨wo.heap.size,4,none⟩ (.slice a7 (M3.good ks).length e7)) (fun g hg => hfar7 g (by have:=(hownk.lt g hg).1; omega))
                have hock7:=OwnC.keep (w':=w6.setCell ⟨wo.heap.size,4,none⟩ (.slice a7 (M3.good ks).length e7)) _ _ _ (fun c hc => hfar7 c (by have:=(hspk.2 c (by simp [hc])).1; omega)) hock
                have hspa:=Span.own hown
                replace hsz7:=Lib.hid hsz7
                replace hown7:=Lib.hid hown7
                replace hownk7:=Lib.hid hownk7
                replace hock7:=Lib.hid hock7
                replace hfar7:=Lib.hid hfar7
                replace hown:=Lib.hid hown
                replace hown6:=Lib.hid hown6
                replace hownk:=Lib.hid hownk
                clear hkd hock
                go_wp2_with (at_builtin; refine wpList_appK _ [.int .i64 1,.string nm,.slice a6 acc.length e6,.string ⟨#[]⟩,.slice a7 (M3.good ks).length e7] 5 rfl _ _ 25 41 rfl w.heap.size Tryz.underlying25 infoN rfl (by omega) u3 A.length zs rfl hownA7 w6.heap.size hsz7.out (by rfl) rfl (five_one _ _ _ _ _ _ _ _ _) (by omega) (by omega) hsz8 ?_; intro g cp w5 hown5 hgrow5 hat5)
                have hb5 : Below w.heap.size w w5:=below_own (hb.trans (hbo7.mono hz)) hownA7 hgrow5 hsz8 (Nat.le_refl _)
                have hfr5 : Fresh w5 w.heap.size (.slice (some ⟨g,0,none⟩) (A.length + 1) cp) (A ++ [.mk 1 nm acc ⟨#[]⟩ (M3.good ks)]):=by
                  refine Fresh.snoc (W:=w6.setCell ⟨wo.heap.size,4,none⟩ (.slice a7 (M3.good ks).length e7)) (mid:=wo.heap.size) (F:=F) (zs2:=zk) (F2:=Fk) rfl hown5 hgrow5 hat5 (OwnC.keep _ _ _ (fun c h => hbo7.block c (hspA.out.2 c (by simp [h])).2) hocA.out) hspA.out (own_base hown7.out (fun _ _ => Nat.zero_le _)) (own_base hownk7.out (fun _ _ => Nat.zero_le _)) hock7.out ?_ hz (by have:=hsz7.out; omega)
                  have h1:=Span.append hspa hspk (by omega) hb6.size
                  exact h1.mono (by omega) (by have:=hsz7.out; omega)
                clear hown5 hgrow5 hat5
                go_roundw
                case rel => exact ⟨i + 1,by omega,by go_num,by rw [hgt.out]; exact hfr5,hb5⟩
                case measure => exact meas_nat hlt
      · rw [if_neg hk1] at hg1
        have hkk : M3.kindN kd = kd:=by
          unfold M3.kindN at hk1 ⊢
          split at hk1
          · exact absurd rfl hk1
          · rename_i h; rw [if_neg h]
        rw [hkk] at hg1 hk1
        have hk23 : kd = 2 ∨ kd = 3:=by
          have:=M3.kindN_in kd
          rw [hkk] at this
          omega
        obtain ⟨x1,w1,hc1,s1,b1⟩:=conv_bytes (wo.alloc (.cells #[.int .i64 kd,.string ⟨#[]⟩,.slice none 0 0,.string ⟨#[]⟩,.slice none 0 0] 41)) t (by omega)
        have hR:=Lib.hid (ref01Right x1 _ w1 s1 (by show t.size ≤ _; omega))
        have hkd1 : (kd != 1) = true:=by simp [bne]; omega
        have hkd2 : ¬ (kd < 1):=by omega
        have hkd3 : ¬ (3 < kd):=by omega
        have hbx0:=Box.new wo 41 [.int .i64 kd,.string ⟨#[]⟩,.slice none 0 0,.string ⟨#[]⟩,.slice none 0 0]
        have hbo0 : Below wo.heap.size wo (wo.alloc (.cells #[.int .i64 kd,.string ⟨#[]⟩,.slice none 0 0,.string ⟨#[]⟩,.slice none 0 0] 41)):=(Below.refl _ _).alloc (Nat.le_refl _) _
        have hso : (wo.alloc (.cells #[.int .i64 kd,.string ⟨#[]⟩,.slice none 0 0,.string ⟨#[]⟩,.slice none 0 0] 41)).heap.size = wo.heap.size + 1:=by simp
        have hz1:=b1.size
        rw [hso] at hz1
        have hbo1 : Below wo.heap.size wo w1:=hbo0.trans (b1.mono (by omega))
        have hbx1:=(show Box (wo.alloc (.cells #[.int .i64 kd,.string ⟨#[]⟩,.slice none 0 0,.string ⟨#[]⟩,.slice none 0 0] 41)) _ _ _ from hbx0).below b1 (by omega)
        have hgx : M3.good1 (.mk kd n ats t ks) = .mk kd ⟨#[]⟩ [] ⟨(M1.right t.data.toList).toArray⟩ []:=hg1
        have hrl:=M1.right_len t.data.toList
        have htl : t.data.toList.length ≤ 30:=hts
        rw [hgx] at hgt
        clear hg1 hgx hbo0 hbx0 b1
        replace hso:=Lib.hid hso
        generalize M1.right t.data.toList = rt at *
        go_wp2_with fail
        refine hR.out.mono ?_
        rintro e w2 ⟨rfl,hb2⟩
        have hz2:=hb2.size
        have hbo2 : Below wo.heap.size wo w2:=hbo1.trans (hb2.mono (by omega))
        have hbx2:=hbx1.below hb2 (by omega)
        have d0:=hbx2.cell (i:=0) rfl
        have d1:=hbx2.cell (i:=1) rfl
        have d2:=hbx2.cell (i:=2) rfl
        have d3:=hbx2.cell (i:=3) rfl
        have d4:=hbx2.cell (i:=4) rfl
        have f3:=hbx2.free 3
        have hbo3 : Below wo.heap.size wo (w2.setCell ⟨wo.heap.size,3,none⟩ (.string ⟨rt.toArray⟩)):=hbo2.setCell (p:=⟨wo.heap.size,3,none⟩) (Nat.le_refl _) _
        have hsz3 : (w2.setCell ⟨wo.heap.size,3,none⟩ (.string ⟨rt.toArray⟩)).heap.size = w2.heap.size:=by simp [World.setCell]
        have hsz4 : w.heap.size ≤ (w2.setCell ⟨wo.heap.size,3,none⟩ (.string ⟨rt.toArray⟩)).heap.size:=by omega
        have hown3:=own_below3 hownA hbo3
        replace hsz3:=Lib.hid hsz3
        clear hR hbx1 s1 c0 c1 c2 c3 c4
        go_wp2_with (at_builtin; refine wpList_appK _ [.int .i64 kd,.string ⟨#[]⟩,.slice none 0 0,.string ⟨rt.toArray⟩,.slice none 0 0] 5 rfl _ _ 25 41 rfl w.heap.size Tryz.underlying25 infoN rfl (by omega) u3 A.length zs rfl hown3 w2.heap.size hsz3.out (by rfl) rfl (five_one _ _ _ _ _ _ _ _ _) (by omega) (by omega) hsz4 ?_; intro g cp w5 hown5 hgrow5 hat5)
        have hb5 : Below w.heap.size w w5:=below_own (hb.trans (hbo3.mono hz)) hown3 hgrow5 hsz4 (Nat.le_refl _)
        have hfr5 : Fresh w5 w.heap.size (.slice (some ⟨g,0,none⟩) (A.length + 1) cp) (A ++ [.mk kd ⟨#[]⟩ [] ⟨rt.toArray⟩ []]):=by
          refine Fresh.snoc (W:=w2.setCell ⟨wo.heap.size,3,none⟩ (.string ⟨rt.toArray⟩)) (mid:=wo.heap.size) (F:=F) (zs2:=[]) (F2:=[]) rfl hown5 hgrow5 hat5 (OwnC.keep _ _ _ (fun b h => hbo3.block b (hspA.out.2 b (by simp [h])).2) hocA.out) hspA.out (World.ownsRow_nil _ _ _ _) (World.ownsRow_nil _ _ _ _) (OwnC.nil _) (Span.nil _ _) hz (by have:=hsz3.out; omega)
        clear hown5 hgrow5 hat5
        go_roundw
        case rel => exact ⟨i + 1,by omega,by go_num,by rw [hgt.out]; exact hfr5,hb5⟩
        case measure => exact meas_nat hlt
    · obtain rfl : i = l.length:=by omega
      rw [List.take_length] at hf
      have hlg:=good_len l
      have htx:=good_txt l hsm.out
      have hM:=Lib.hid (ref03MergeF w.heap.size u3 _ wr hz hf (by omega) (by omega))
      obtain ⟨a3,c3,hu3⟩ : ∃ a c,u3 = .slice a (M3.goodN l).length c:=by obtain ⟨_,_,h,_⟩:=hf; exact own_slice h
      subst hu3
      clear hf hlg htx
      go_wp2_with fail
      refine hM.out.mono ?_
      rintro e w1 ⟨v1,rfl,hfr1,hb1⟩
      have hbb : Below w.heap.size w w1:=hb.trans (hb1.mono hz)
      clear hM
      replace hfr1:=Lib.hid hfr1
      go_wp2_with fail
      go_ret
      exact ⟨v1,rfl,hfr1.out,hbb⟩
end Go.Proofs.YteefodibpjgicaaGreat
