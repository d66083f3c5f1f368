/- Texts joined: Ref03s, Small3, Law03m, Ref03y. -/
import Derived.Deep.RegionHeld3
import Derived.Test.YteefodibpjgicaaGreatA15
import Derived.Test.YteefodibpjgicaaGreatA16
import Derived.Test.YteefodibpjgicaaGreatA21
namespace Go.Proofs.YteefodibpjgicaaGreat
open Go.RowKit
set_option maxHeartbeats 8000000 in
set_option maxRecDepth 100000 in
theorem ref03Same (wt : Nat) : ∀ (S : Nat → Prop) (a b : List Nd) (va vb : Value) (w : World),M3.weight a < wt → (∀ b,S b → b < w.heap.size) → RepN S w va a → RepN S w vb b → Calls Tryz.prog 10 #[va,vb] w (SamePost (M3.sameN a b) w):=by
  induction wt with
  | zero => intro S a b va vb w h; omega
  | succ wt ih =>
  intro S a b va vb w hwt hS ha hb
  obtain ⟨a1,cap1,rfl⟩:=ha.slice
  obtain ⟨a2,cap2,rfl⟩:=hb.slice
  obtain ⟨_,hl1,hm1⟩:=ha.len
  obtain ⟨_,hl2,hm2⟩:=hb.len
  replace ih:=Lib.hid ih
  by_cases hne : a.length = b.length
  · have hz : ((a.length : Int) == (b.length : Int)) = true:=by simp [hne]
    have h0 : Hid (M3.sameN a b = M3.sameN (a.drop 0) (b.drop 0)):=rfl
    replace hne:=Lib.hid hne
    go_enter Tryz.func10,Tryz.ntmps10
    go_wp2
    go_loopw [5] (fun u5 wr => ∃ i : Nat,i ≤ a.length ∧ u5 = .int .i64 (i : Int) ∧ Hid (M3.sameN a b = M3.sameN (a.drop i) (b.drop i)) ∧ Below w.heap.size w wr) (fun u5 _ => a.length - (intOf u5).toNat)
    case atStart => exact ⟨0,by omega,rfl,h0,Below.refl _ _⟩
    case round =>
      obtain ⟨i,hi,rfl,hv,hbw⟩:=hrel
      clear h0
      have hzw:=hbw.size
      by_cases hlt : i < a.length
      · have hlt2 : i < b.length:=by have:=hne.out; omega
        have hI0 : (0 : Int) ≤ (i : Int):=by omega
        have hI1 : (i : Int) < (a.length : Int):=by omega
        have hI2 : (i : Int) < (b.length : Int):=by omega
        obtain ⟨b1,off1,va,vk,rfl,hS1,c0,c1,c2,c3,c4,hrx⟩:=(ha.below hS hbw).at_ i hlt
        obtain ⟨b2,off2,vb,vl,rfl,hS2,d0,d1,d2,d3,d4,hry⟩:=(hb.below hS hbw).at_ i hlt2
        have hsd:=sameN_drop a b i hlt hlt2
        have hwx:=weight_mem (List.getElem_mem hlt)
        generalize a[i] = x at *
        generalize b[i] = y at *
        obtain ⟨a5,c5,rfl⟩:=hrx.at_.slice
        obtain ⟨a6,c6,rfl⟩:=hrx.kids.slice
        obtain ⟨a7,c7,rfl⟩:=hry.at_.slice
        obtain ⟨a8,c8,rfl⟩:=hry.kids.slice
        have hx1:=(Below.refl wr.heap.size wr).alloc (Nat.le_refl _) (.cells (x.cells (.slice a5 x.attrs.length c5) (.slice a6 x.kids.length c6)).toArray 41)
        have hl2 : b2 < wr.heap.size:=by have:=hS b2 hS2; omega
        have d0':=(hx1.cell (p:=⟨b2,off2 + i * 5,none⟩) hl2).trans d0
        have d1':=(hx1.cell (p:=⟨b2,off2 + i * 5 + 1,none⟩) hl2).trans d1
        have d2':=(hx1.cell (p:=⟨b2,off2 + i * 5 + 2,none⟩) hl2).trans d2
        have d3':=(hx1.cell (p:=⟨b2,off2 + i * 5 + 3,none⟩) hl2).trans d3
        have d4':=(hx1.cell (p:=⟨b2,off2 + i * 5 + 4,none⟩) hl2).trans d4
        have hB2:=hx1.alloc (by simp) (.cells (y.cells (.slice a7 y.attrs.length c7) (.slice a8 y.kids.length c8)).toArray 41)
        have b0:=(Box.new wr 41 (x.cells (.slice a5 x.attrs.length c5) (.slice a6 x.kids.length c6))).alloc (.cells (y.cells (.slice a7 y.attrs.length c7) (.slice a8 y.kids.length c8)).toArray 41)
        have b1':=Box.new (wr.alloc (.cells (x.cells (.slice a5 x.attrs.length c5) (.slice a6 x.kids.length c6)).toArray 41)) 41 (y.cells (.slice a7 y.attrs.length c7) (.slice a8 y.kids.length c8))
        simp only [World.size_alloc] at b1'
        have hih:=Lib.hid (fun W (hW : Below wr.heap.size wr W) => ih.out S x.kids y.kids (.slice a6 x.kids.length c6) (.slice a8 y.kids.length c8) W (by omega) (fun b h => by have:=hS b h; have:=hW.size; omega) (RepN.below (w:=wr) (B:=wr.heap.size) hrx.kids (fun b h => by have:=hS b h; omega) hW) (RepN.below (w:=wr) (B:=wr.heap.size) hry.kids (fun b h => by have:=hS b h; omega) hW))
        have hatx:=fun W (hW : Below wr.heap.size wr W) => Row.below (w:=wr) (B:=wr.heap.size) hrx.at_ (fun b h => by have:=hS b h; omega) hW
        have haty:=fun W (hW : Below wr.heap.size wr W) => Row.below (w:=wr) (B:=wr.heap.size) hry.at_ (fun b h => by have:=hS b h; omega) hW
        replace hsd:=hv.out.trans hsd
        clear hv ih hrx hry ha hb
        have hsame : oneSame x y = (x.kind == y.kind && (x.name.toList == y.name.toList) && (x.text.toList == y.text.toList) && M3.sameA x.attrs y.attrs && M3.sameN x.kids y.kids):=rfl
        rw [hsame] at hsd
        clear hsame
        cases x with | mk k1 n1 ats1 t1 ks1 =>
        cases y with | mk k2 n2 ats2 t2 ks2 =>
        simp only [Nd.kind,Nd.name,Nd.text,Nd.attrs,Nd.kids,Nd.cells] at *
        replace hatx:=Lib.hid hatx
        replace haty:=Lib.hid haty
        cases he1 : (k1 == k2)
        · have hk : ¬ k1 = k2:=by simpa using he1
          replace hsd : Hid (M3.sameN a b = false):=by show _ = _; rw [hsd,he1]; rfl
          go_wp2_with (fail)
          go_ret
          exact ⟨by rw [hsd.out]; rfl,hbw.trans (hB2.mono hzw)⟩
        · obtain rfl : k1 = k2:=by simpa using he1
          cases he2 : (n1.toList == n2.toList)
          · replace hsd : Hid (M3.sameN a b = false):=by show _ = _; rw [hsd,he1,he2]; rfl
            go_wp2_with (fail)
            go_ret
            exact ⟨by rw [hsd.out]; rfl,hbw.trans (hB2.mono hzw)⟩
          · cases he3 : (t1.toList == t2.toList)
            · replace hsd : Hid (M3.sameN a b = false):=by show _ = _; rw [hsd,he1,he2,he3]; rfl
              go_wp2_with (fail)
              go_ret
              exact ⟨by rw [hsd.out]; rfl,hbw.trans (hB2.mono hzw)⟩
            · by_cases hla : ats1.length = ats2.length
              · have hla1 : ((ats1.length : Int) == (ats2.length : Int)) = true:=by simp [hla]
                have hla2 : (ats1.length : Int) = (ats2.length : Int):=by omega
                rw [he1,he2,he3] at hsd
                replace hsd:=Lib.hid hsd
                replace hla:=Lib.hid hla
                clear hla2
                go_wp2_with (fail)
                rw [show ((ats1.length : Int) != (ats2.length : Int)) = false by simp [hla.out]]
                clear hla1
                obtain ⟨wo,rfl⟩ : ∃ wo : World,wo = wr:=⟨_,rfl⟩
                have h1 : Hid (M3.sameA ats1 ats2 = M3.sameA (ats1.drop 0) (ats2.drop 0)):=rfl
                go_loopw [8] (fun u8 wr => ∃ k : Nat,k ≤ ats1.length ∧ u8 = .int .i64 (k : Int) ∧ Hid (M3.sameA ats1 ats2 = M3.sameA (ats1.drop k) (ats2.drop k)) ∧ Below wo.heap.size wo wr ∧ Box wr wo.heap.size 41 [.int .i64 k1,.string n1,.slice a5 ats1.length c5,.string t1,.slice a6 ks1.length c6] ∧ Box wr (wo.heap.size + 1) 41 [.int .i64 k1,.string n2,.slice a7 ats2.length c7,.string t2,.slice a8 ks2.length c8]) (fun u8 _ => ats1.length - (intOf u8).toNat)
                case atStart => exact ⟨0,by omega,rfl,h1,hB2,b0,b1'⟩
                case round =>
                  obtain ⟨k,hk,rfl,hA,hbi,hx8,hy8⟩:=hrel
                  have g1:=hx8.cell (i:=2) rfl
                  have g2:=hy8.cell (i:=2) rfl
                  have g3:=hx8.cell (i:=4) rfl
                  have g4:=hy8.cell (i:=4) rfl
                  clear h1 hB2 b0 b1' d0' d1' d2' d3' d4' c0 c1 c2 c3 c4 d0 d1 d2 d3 d4 hx1
                  by_cases hlk : k < ats1.length
                  · have hlk2 : k < ats2.length:=by have:=hla.out; omega
                    have hJ0 : (0 : Int) ≤ (k : Int):=by omega
                    have hJ1 : (k : Int) < (ats1.length : Int):=by omega
                    have hJ2 : (k : Int) < (ats2.length : Int):=by omega
                    obtain ⟨_,hl5,hm5⟩:=(hatx.out wr hbi).len
                    have hb63 : Hid (ats1.length ≤ 9223372036854775807):=Nat.le_trans hl5 hm5
                    clear hl5 hm5
                    obtain ⟨b3,off3,rfl,hS3,p0,p1⟩:=(hatx.out wr hbi).atA k hlk
                    obtain ⟨b4,off4,rfl,hS4,p2,p3⟩:=(haty.out wr hbi).atA k hlk2
                    have hsa:=sameA_drop ats1 ats2 k hlk hlk2
                    generalize ats1[k].name = m1 at *
                    generalize ats1[k].value = x1 at *
                    generalize ats2[k].name = m2 at *
                    generalize ats2[k].value = x2 at *
                    replace hA:=hA.out.trans hsa
                    have q1 : M3.eqB m1 m2 = (m1.toList == m2.toList):=rfl
                    have q2 : M3.eqB x1 x2 = (x1.toList == x2.toList):=rfl
                    clear hsa
                    cases he4 : (m1.toList == m2.toList)
                    · clear q2
                      replace hA : Hid (M3.sameA ats1 ats2 = false):=by show _ = _; rw [hA,q1,he4]; rfl
                      go_wp2_with (fail)
                      go_region_held3 (fun w' => w'.cell? ⟨wo.heap.size,2,none⟩ = some (.slice (some ⟨b3,off3,none⟩) ats1.length c5) ∧ w'.cell? ⟨wo.heap.size + 1,2,none⟩ = some (.slice (some ⟨b4,off4,none⟩) ats2.length c7) ∧ w'.cell? ⟨b3,off3 + k * 2,none⟩ = some (.string m1) ∧ w'.cell? ⟨b3,off3 + k * 2 + 1,none⟩ = some (.string x1) ∧ w'.cell? ⟨b4,off4 + k * 2,none⟩ = some (.string m2) ∧ w'.cell? ⟨b4,off4 + k * 2 + 1,none⟩ = some (.string x2))
                        (first
                          | go_keep
                          | assumption)
                        (first
                          | fail)
                      go_wp2_with (fail)
                      go_ret
                      exact ⟨by rw [hsd.out,hA.out]; rfl,hbw.trans ((hbi.trans ((Below.refl _ wr).drew.mono (by have:=hbi.size; omega))).mono hzw)⟩
                    · cases he5 : (x1.toList == x2.toList)
                      · replace hA : Hid (M3.sameA ats1 ats2 = false):=by show _ = _; rw [hA,q1,q2,he4,he5]; rfl
                        go_wp2_with (fail)
                        go_region_held3 (fun w' => w'.cell? ⟨wo.heap.size,2,none⟩ = some (.slice (some ⟨b3,off3,none⟩) ats1.length c5) ∧ w'.cell? ⟨wo.heap.size + 1,2,none⟩ = some (.slice (some ⟨b4,off4,none⟩) ats2.length c7) ∧ w'.cell? ⟨b3,off3 + k * 2,none⟩ = some (.string m1) ∧ w'.cell? ⟨b3,off3 + k * 2 + 1,none⟩ = some (.string x1) ∧ w'.cell? ⟨b4,off4 + k * 2,none⟩ = some (.string m2) ∧ w'.cell? ⟨b4,off4 + k * 2 + 1,none⟩ = some (.string x2))
                          (first
                            | go_keep
                            | assumption)
                          (first
                            | fail)
                        go_wp2_with (fail)
                        go_ret
                        exact ⟨by rw [hsd.out,hA.out]; rfl,hbw.trans ((hbi.trans ((Below.refl _ wr).drew.mono (by have:=hbi.size; omega))).mono hzw)⟩
                      · replace hA : Hid (M3.sameA ats1 ats2 = M3.sameA (ats1.drop (k + 1)) (ats2.drop (k + 1))):=by show _ = _; rw [hA,q1,q2,he4,he5]; rfl
                        go_wp2_with (fail)
                        go_region_held3 (fun w' => w'.cell? ⟨wo.heap.size,2,none⟩ = some (.slice (some ⟨b3,off3,none⟩) ats1.length c5) ∧ w'.cell? ⟨wo.heap.size + 1,2,none⟩ = some (.slice (some ⟨b4,off4,none⟩) ats2.length c7) ∧ w'.cell? ⟨b3,off3 + k * 2,none⟩ = some (.string m1) ∧ w'.cell? ⟨b3,off3 + k * 2 + 1,none⟩ = some (.string x1) ∧ w'.cell? ⟨b4,off4 + k * 2,none⟩ = some (.string m2) ∧ w'.cell? ⟨b4,off4 + k * 2 + 1,none⟩ = some (.string x2))
                          (first
                            | go_keep
                            | assumption)
                          (first
                            | fail)
                        go_wp2_with (fail)
                        go_roundw
                        case rel => exact ⟨k + 1,by omega,by rw [IntWalk.wrap64_in _ (by have:=hb63.out; omega)]; rfl,hA,hbi.trans ((Below.refl _ wr).drew.mono (by have:=hbi.size; omega)),hx8.below ((Below.refl _ wr).drew) hx8.lt,hy8.below ((Below.refl _ wr).drew) hy8.lt⟩
                        case measure => clear hA hsd; rw [IntWalk.wrap64_in _ (by have:=hb63.out; omega)]; exact meas_nat hlk
                  · obtain rfl : k = ats1.length:=by omega
                    have hs : Hid (M3.sameA ats1 ats2 = true):=by
                      show _ = _
                      rw [hA.out,List.drop_length,hla.out,List.drop_length]; rfl
                    clear hA
                    go_wp2_with (fail)
                    refine (hih.out _ hbi).mono ?_
                    rintro e w9 ⟨rfl,hb9⟩
                    have hzi:=hbi.size
                    have hbo : Below wo.heap.size wo w9:=hbi.trans (hb9.mono hzi)
                    generalize M3.sameN ks1 ks2 = r at *
                    cases r
                    · go_wp2_with (fail)
                      go_ret
                      exact ⟨by rw [hsd.out,hs.out]; rfl,hbw.trans (hbo.mono hzw)⟩
                    · go_wp2_with (fail)
                      go_roundw
                      case rel => exact ⟨i + 1,by omega,by go_num,by show _ = _; rw [hsd.out,hs.out]; simp,hbw.trans (hbo.mono hzw)⟩
                      case measure => simp [intOf]; omega
              · have hla1 : ((ats1.length : Int) == (ats2.length : Int)) = false:=by simpa using fun h => hla (by omega)
                replace hsd : Hid (M3.sameN a b = false):=by show _ = _; rw [hsd,M3.sameA_len _ _ hla]; simp
                go_wp2_with (fail)
                go_ret
                exact ⟨by rw [hsd.out]; rfl,hbw.trans (hB2.mono hzw)⟩
      · obtain rfl : i = a.length:=by omega
        have hs : Hid (M3.sameN a b = true):=by
          show _ = _
          rw [hv.out,List.drop_length,hne.out,List.drop_length]; exact M3.sameN_nil
        clear hv
        go_wp2
        go_ret
        exact ⟨by rw [hs.out]; rfl,hbw⟩
  · have hs : Hid (M3.sameN a b = false):=M3.sameN_len a b hne
    have hz : ((a.length : Int) == (b.length : Int)) = false:=by simpa using fun h => hne (by omega)
    go_enter Tryz.func10,Tryz.ntmps10
    go_wp2
    go_ret
    exact ⟨by rw [hs.out]; rfl,Below.refl _ _⟩
end Go.Proofs.YteefodibpjgicaaGreat

namespace Go.Proofs.YteefodibpjgicaaGreat
open Go.RowKit
theorem few_size (s : ByteArray) : (M3.few s).size ≤ 30:=by
  unfold M3.few
  split
  · simp [ByteArray.size_extract]; omega
  · omega
theorem cut_weight (l : List Nd) (m : Nat) : M3.weight (M3.cut l m).1 + 6 * (M3.cut l m).2 ≤ 6 * m:=by
  induction l using Nd.ind generalizing m with
  | h0 => rw [M3.cut_nil,M3.weight_nil]; simp
  | h1 k n a t ks r ih1 ih2 =>
    cases m with
    | zero => rw [M3.cut_zero,M3.weight_nil]; simp
    | succ m =>
      rw [M3.cut_cons,M3.weight_cons]
      have h1:=ih1 m
      have h2:=ih2 (M3.cut ks m).2
      simp only [Nd.kids,Nd.attrs]
      have h3 : ((a.take 5).map M3.fewA).length ≤ 5:=by simp; omega
      omega
theorem fewN_weight (l : List Nd) : M3.weight (fewN l) ≤ 240:=by
  have:=cut_weight l 40
  unfold fewN
  omega
theorem cut_fit (l : List Nd) (m : Nat) (hm : m ≤ 1000) : FitN (M3.cut l m).1:=by
  induction l using Nd.ind generalizing m with
  | h0 => rw [M3.cut_nil]; exact fitN_nil
  | h1 k n a t ks r ih1 ih2 =>
    cases m with
    | zero => rw [M3.cut_zero]; exact fitN_nil
    | succ m =>
      rw [M3.cut_cons]
      have h1:=cut_weight ks m
      have h3 : ((a.take 5).map M3.fewA).length ≤ 5:=by simp; omega
      refine fitN_cons.2 ⟨⟨Nat.le_trans (few_size _) (by omega),Nat.le_trans (few_size _) (by omega),?_,?_⟩,ih1 m (by omega),ih2 _ (by have:=M3.cut_le ks m; simp only [Nd.kids]; omega)⟩
      · intro b hb
        simp only [Nd.attrs] at hb
        obtain ⟨c,_,rfl⟩:=List.mem_map.1 hb
        exact ⟨Nat.le_trans (few_size _) (by omega),Nat.le_trans (few_size _) (by omega)⟩
      · simp only [Nd.attrs,Nd.kids]
        omega
end Go.Proofs.YteefodibpjgicaaGreat

namespace Go.Proofs.YteefodibpjgicaaGreat
open Go.RowKit
theorem weight_push (out : List Nd) (x : Nd) : M3.weight (M3.push out x) ≤ M3.weight out + M3.weight [x]:=by
  cases h : M3.bareB x
  · rcases List.eq_nil_or_concat out with rfl | ⟨o,y,rfl⟩
    · rw [M3.push_none h]; omega
    · rw [List.concat_eq_append,M3.push_snoc h]
      split
      · rw [M3.weight_append,M3.weight_append]
        have : M3.weight [M3.withText y (M3.cat y.text x.text)] = M3.weight [y]:=by
          rw [M3.weight_cons,M3.weight_cons,M3.withText_attrs,M3.withText_kids]
        omega
      · rw [M3.weight_append]; omega
  · rw [M3.push_bare h]; omega
theorem weight_merge (l : List Nd) : M3.weight (M3.merge l) ≤ M3.weight l:=by
  have key : ∀ (l out : List Nd),M3.weight (l.foldl M3.push out) ≤ M3.weight out + M3.weight l:=by
    intro l
    induction l with
    | nil => intro out; rw [M3.weight_nil]; exact Nat.le_refl _
    | cons x r ih =>
      intro out
      have h1:=ih (M3.push out x)
      have h2:=weight_push out x
      have h3 : M3.weight (x :: r) = M3.weight [x] + M3.weight r:=by rw [← List.singleton_append,M3.weight_append]
      rw [List.foldl_cons,h3]
      omega
  have:=key l []
  rw [M3.weight_nil] at this
  simpa [M3.merge] using this
theorem txtN_push (out : List Nd) (x : Nd) : txtN (M3.push out x) ≤ txtN out + x.text.size:=by
  cases h : M3.bareB x
  · rcases List.eq_nil_or_concat out with rfl | ⟨o,y,rfl⟩
    · rw [M3.push_none h,txtN_cons]; exact Nat.le_of_eq (by rw [Nat.add_comm])
    · rw [List.concat_eq_append,M3.push_snoc h]
      split
      · rw [txtN_append,txtN_append,txtN_cons,txtN_cons,M3.withText_text,cat_size]
        have : txtN [] = 0:=rfl
        omega
      · rw [txtN_append,txtN_cons]
        have : txtN [] = 0:=rfl
        omega
  · rw [M3.push_bare h]; omega
theorem txtN_merge (l : List Nd) : txtN (M3.merge l) ≤ txtN l:=by
  have key : ∀ (l out : List Nd),txtN (l.foldl M3.push out) ≤ txtN out + txtN l:=by
    intro l
    induction l with
    | nil => intro out; exact Nat.le_add_right _ _
    | cons x r ih =>
      intro out
      have h1:=ih (M3.push out x)
      have h2:=txtN_push out x
      rw [List.foldl_cons,txtN_cons]
      omega
  have:=key l []
  have h0 : txtN ([] : List Nd) = 0:=rfl
  rw [h0] at this
  simpa [M3.merge] using this
theorem txtN_fit (l : List Nd) (b : Nat) (h : ∀ x ∈ l,x.text.size ≤ b) : txtN l ≤ l.length * b:=by
  induction l with
  | nil => exact Nat.zero_le _
  | cons x r ih =>
    rw [txtN_cons,List.length_cons,Nat.add_mul]
    have h1:=h x (by simp)
    have h2:=ih (fun y hy => h y (by simp [hy]))
    omega
end Go.Proofs.YteefodibpjgicaaGreat

namespace Go.Proofs.YteefodibpjgicaaGreat
open Go.RowKit
def seenA (ats : List Att) (i : Nat) : List ByteArray:=(ats.take i).map Att.name
theorem seenA_len (ats : List Att) (i : Nat) (h : i ≤ ats.length) : (seenA ats i).length = i:=by simp [seenA]; omega
theorem seenA_get (ats : List Att) (i k : Nat) (hk : k < i) (hi : i ≤ ats.length) : (seenA ats i)[k]? = some ats[k].name:=by
  unfold seenA
  rw [List.getElem?_map,List.getElem?_take,if_pos hk,List.getElem?_eq_getElem (by omega)]
  rfl
theorem names_at' (ats : List Att) (i : Nat) (h : i < ats.length) : M3.namesE (seenA ats i) (ats.drop i) = if M3.attributedB ats[i].name.data.toList then (if (seenA ats i).any (M3.eqB ats[i].name) then 5 else M3.namesE (seenA ats (i + 1)) (ats.drop (i + 1))) else 4:=by
  have htk : seenA ats (i + 1) = seenA ats i ++ [ats[i].name]:=by
    unfold seenA
    rw [List.take_succ_eq_append_getElem h,List.map_append]; rfl
  rw [List.drop_eq_getElem_cons h,M3.namesE,htk]
theorem values_at (ats : List Att) (i : Nat) (h : i < ats.length) : M3.valuesE (ats.drop i) = if M1.isB ats[i].value.data.toList then M3.valuesE (ats.drop (i + 1)) else 2:=by
  rw [List.drop_eq_getElem_cons h,M3.valuesE]
theorem any_at {l : List ByteArray} {p : ByteArray → Bool} {k : Nat} {s : ByteArray} (h : l[k]? = some s) (hp : p s = true) : l.any p = true :=
  List.any_eq_true.2 ⟨s,List.mem_of_getElem? h,hp⟩
theorem eqB_comm (s t : ByteArray) : M3.eqB s t = (t.toList == s.toList):=by
  unfold M3.eqB
  rw [Bool.eq_iff_iff,beq_iff_eq,beq_iff_eq]
  exact eq_comm
def IntPost (n : Int) (w : World) (e : Ending) (w' : World) : Prop:=e = .returned (.int .i64 n) ∧ Below w.heap.size w w'
set_option maxHeartbeats 8000000 in
set_option maxRecDepth 100000 in
theorem ref03Element (S : Nat → Prop) (x : Nd) (va vk : Value) (w : World) (hS : ∀ b,S b → b < w.heap.size) (hx : RepV S w x va vk) (hf : Fit1 x) :
    Calls Tryz.prog 51 #[x.val va vk] w (IntPost (M3.elemE x) w):=by
  obtain ⟨hat,hkd⟩:=hx
  obtain ⟨a,cap,rfl⟩:=hat.slice
  obtain ⟨_,hlc,hcm⟩:=hat.len
  obtain ⟨a2,cap2,rfl⟩:=hkd.slice
  cases x with | mk k n ats t ks =>
  obtain ⟨hf1,hf2,hf3,_⟩:=hf
  simp only [Nd.val,Nd.kind,Nd.name,Nd.text,Nd.attrs,Nd.kids] at *
  have hb0:=(Below.refl w.heap.size w).alloc (Nat.le_refl _) (.cells #[.int .i64 k,.string n,.slice a ats.length cap,.string t,.slice a2 ks.length cap2] 41)
  have hbx0:=Box.new w 41 [.int .i64 k,.string n,.slice a ats.length cap,.string t,.slice a2 ks.length cap2]
  have hNa:=Lib.hid (fun W => ref03Named n W (by omega))
  have hr : M3.elemE (.mk k n ats t ks) = if t.toList.isEmpty then (if M3.namedB n.data.toList then (if M3.namesE [] ats = 0 then M3.valuesE ats else M3.namesE [] ats) else 4) else 7:=rfl
  generalize M3.namedB n.data.toList = p at *
  cases hte : t.toList.isEmpty
  · rw [hte] at hr
    replace hr : Hid (M3.elemE (.mk k n ats t ks) = 7):=hr
    go_enter Tryz.func51,Tryz.ntmps51
    go_wp2_with fail
    refine (hNa.out _).mono ?_
    rintro e w1 ⟨rfl,rfl⟩
    go_wp2
    go_ret
    exact ⟨by rw [hr.out]; rfl,hb0⟩
  rw [hte] at hr
  cases p
  · replace hr : Hid (M3.elemE (.mk k n ats t ks) = 4):=hr
    go_enter Tryz.func51,Tryz.ntmps51
    go_wp2_with fail
    refine (hNa.out _).mono ?_
    rintro e w1 ⟨rfl,rfl⟩
    go_wp2
    go_ret
    exact ⟨by rw [hr.out]; rfl,hb0⟩
  replace hr : Hid (M3.elemE (.mk k n ats t ks) = if M3.namesE [] ats = 0 then M3.valuesE ats else M3.namesE [] ats):=hr
  have hz0 : w.heap.size < (w.alloc (.cells #[.int .i64 k,.string n,.slice a ats.length cap,.string t,.slice a2 ks.length cap2] 41)).heap.size:=by simp
  have hn0 : Hid (M3.namesE [] ats = M3.namesE (seenA ats 0) (ats.drop 0)):=rfl
  replace hf3:=Lib.hid hf3
  go_enter Tryz.func51,Tryz.ntmps51
  go_wp2_with fail
  refine (hNa.out _).mono ?_
  rintro e w1 ⟨rfl,rfl⟩
  go_wp2_with fail
  go_loopw [4,5,6] (fun u4 _ _ wr => ∃ i : Nat,i ≤ ats.length ∧ u4 = .int .i64 (i : Int) ∧ Hid (M3.namesE [] ats = M3.namesE (seenA ats i) (ats.drop i)) ∧ Below w.heap.size w wr ∧ Box wr w.heap.size 41 [.int .i64 k,.string n,.slice a ats.length cap,.string t,.slice a2 ks.length cap2]) (fun u4 _ _ _ => ats.length - (intOf u4).toNat)
  case atStart => exact ⟨0,by omega,rfl,hn0,hb0,hbx0⟩
  case round =>
    obtain ⟨i,hi,rfl,hv,hb,hbx⟩:=hrel
    clear hn0 hbx0 hb0 hz0 hNa
    have hz:=hbx.lt
    have q2:=hbx.cell (i:=2) rfl
    by_cases hlt : i < ats.length
    · obtain ⟨b,off,rfl,hSb,c0,c1⟩:=(hat.below hS hb).atA i hlt
      have hbl:=hS b hSb
      have hna:=names_at' ats i hlt
      have hfa:=(hf3.out _ (List.getElem_mem hlt)).1
      have hget:=Lib.hid (fun k (hk : k < i) => seenA_get ats i k hk hi)
      have hA:=Lib.hid (fun W => ref03Attributed ats[i].name W hfa)
      have hsl:=seenA_len ats i hi
      generalize hnm : ats[i].name = nm at *
      generalize M3.attributedB nm.data.toList = p at *
      replace hna:=hv.out.trans hna
      have hI0 : (0 : Int) ≤ (i : Int):=by omega
      have hI1 : (i : Int) < (ats.length : Int):=by omega
      obtain ⟨wo,rfl⟩ : ∃ wo : World,wo = wr:=⟨_,rfl⟩
      replace hsl:=Lib.hid hsl
      replace hnm:=Lib.hid hnm
      cases p
      · replace hna : Hid (M3.namesE [] ats = 4):=hna
        rw [hna.out] at hr
        replace hr : Hid (M3.elemE (.mk k n ats t ks) = 4):=hr
        go_wp2_with fail
        refine (hA.out _).mono ?_
        rintro e w2 ⟨rfl,hb2⟩
        go_wp2
        go_ret
        exact ⟨by rw [hr.out]; rfl,hb.trans (hb2.mono (by omega))⟩
      · replace hna : Hid (M3.namesE [] ats = if (seenA ats i).any (M3.eqB nm) then 5 else M3.namesE (seenA ats (i + 1)) (ats.drop (i + 1))):=hna
        clear hv
        go_wp2_with fail
        refine (hA.out _).mono ?_
        rintro e w2 ⟨rfl,hb2⟩
        have hbx2:=hbx.below hb2 hz
        have c0':=(hb2.cell (p:=⟨b,off + i * 2,none⟩) (by simp; omega)).trans c0
        have hb02 : Below w.heap.size w w2:=hb.trans (hb2.mono (by omega))
        clear hA hbx q2 c0 c1
        go_wp2_with fail
        go_loopw [6] (fun u6 wr => ∃ j : Nat,j ≤ i ∧ u6 = .int .i64 (j : Int) ∧ Hid (∀ k' (s : ByteArray),k' < j → (seenA ats i)[k']? = some s → M3.eqB nm s = false) ∧ Below w2.heap.size w2 wr) (fun u6 _ => i - (intOf u6).toNat)
        case atStart => exact ⟨0,by omega,rfl,Lib.hid (fun k' s h => absurd h (by omega)),Below.refl _ _⟩
        case round =>
          obtain ⟨j,hj,rfl,hno,hbj⟩:=hrel
          have hbx3:=hbx2.below hbj hbx2.lt
          have q3:=hbx3.cell (i:=2) rfl
          have hb03 : Below w.heap.size w wr:=hb02.trans (hbj.mono (by have:=hb02.size; omega))
          have hz2:=hb02.size
          by_cases hji : j < i
          · obtain ⟨b',off',e0,hSb',d0,d1⟩:=(hat.below hS hb03).atA j (by omega)
            cases e0
            have c0'':=(hbj.cell (p:=⟨b,off + i * 2,none⟩) (by simp; omega)).trans c0'
            have hgj:=hget.out j hji
            have hJ0 : (0 : Int) ≤ (j : Int):=by omega
            have hJ1 : (j : Int) < (ats.length : Int):=by omega
            generalize ats[j].name = nj at *
            replace hgj:=Lib.hid hgj
            have heq:=eqB_comm nm nj
            have hbd : Below w.heap.size w wr.drew:=hb03.drew
            cases hc : (nj.toList == nm.toList)
            · rw [hc] at heq
              replace heq:=Lib.hid heq
              go_wp2_with fail
              go_region_held3 (fun w' => w'.cell? ⟨w.heap.size,2,none⟩ = some (.slice (some ⟨b,off,none⟩) ats.length cap) ∧ w'.cell? ⟨b,off + i * 2,none⟩ = some (.string nm) ∧ w'.cell? ⟨b,off + j * 2,none⟩ = some (.string nj))
                (first
                  | go_keep
                  | assumption)
                (first
                  | fail)
              go_wp2_with fail
              go_roundw
              case rel =>
                refine ⟨j + 1,by omega,by go_num,Lib.hid (fun k' s h1 h2 => ?_),hbj.drew⟩
                by_cases e : k' = j
                · subst e
                  rw [hgj.out] at h2
                  cases h2
                  exact heq.out
                · exact hno.out k' s (by omega) h2
              case measure => exact meas_nat hji
            · rw [hc] at heq
              have hany:=any_at (p:=M3.eqB nm) hgj.out heq
              rw [hany] at hna
              replace hna : Hid (M3.namesE [] ats = 5):=hna
              rw [hna.out] at hr
              replace hr : Hid (M3.elemE (.mk k n ats t ks) = 5):=hr
              replace heq:=Lib.hid heq
              clear hany
              go_wp2_with fail
              go_region_held3 (fun w' => w'.cell? ⟨w.heap.size,2,none⟩ = some (.slice (some ⟨b,off,none⟩) ats.length cap) ∧ w'.cell? ⟨b,off + i * 2,none⟩ = some (.string nm) ∧ w'.cell? ⟨b,off + j * 2,none⟩ = some (.string nj))
                (first
                  | go_keep
                  | assumption)
                (first
                  | fail)
              go_wp2_with fail
              go_ret
              exact ⟨by rw [hr.out]; rfl,hbd⟩
          · obtain rfl : j = i:=by omega
            have hany : (seenA ats j).any (M3.eqB nm) = false:=by
              rw [List.any_eq_false]
              intro s hs
              obtain ⟨k',hk',e⟩:=List.mem_iff_getElem.1 hs
              rw [hsl.out] at hk'
              have:=hno.out k' s hk' (by rw [List.getElem?_eq_getElem (by rw [hsl.out]; exact hk'),e])
              simpa using this
            rw [hany] at hna
            replace hna : Hid (M3.namesE [] ats = M3.namesE (seenA ats (j + 1)) (ats.drop (j + 1))):=hna
            clear hany hno
            go_wp2_with fail
            go_roundw
            case rel => exact ⟨j + 1,by omega,by go_num,hna,hb03,hbx3⟩
            case measure => exact meas_nat hlt
    · obtain rfl : i = ats.length:=by omega
      have hv0 : M3.namesE [] ats = 0:=by rw [hv.out,List.drop_length]; rfl
      rw [hv0,if_pos rfl] at hr
      have hvv : Hid (M3.valuesE ats = M3.valuesE (ats.drop 0)):=rfl
      clear hv hv0
      obtain ⟨wo,rfl⟩ : ∃ wo : World,wo = wr:=⟨_,rfl⟩
      go_wp2_with fail
      go_loopw [7,8] (fun u7 _ wr => ∃ i : Nat,i ≤ ats.length ∧ u7 = .int .i64 (i : Int) ∧ Hid (M3.valuesE ats = M3.valuesE (ats.drop i)) ∧ Below w.heap.size w wr ∧ Box wr w.heap.size 41 [.int .i64 k,.string n,.slice a ats.length cap,.string t,.slice a2 ks.length cap2]) (fun u7 _ _ => ats.length - (intOf u7).toNat)
      case atStart => exact ⟨0,by omega,rfl,hvv,hb,hbx⟩
      case round =>
        obtain ⟨i,hi,rfl,hv,hb,hbx⟩:=hrel
        clear hvv
        have hz:=hbx.lt
        have q2:=hbx.cell (i:=2) rfl
        by_cases hlt : i < ats.length
        · obtain ⟨b,off,rfl,hSb,c0,c1⟩:=(hat.below hS hb).atA i hlt
          have hva:=hv.out.trans (values_at ats i hlt)
          have hfa:=(hf3.out _ (List.getElem_mem hlt)).2
          have hA:=Lib.hid (fun W => ref01Is ats[i].value W hfa)
          generalize ats[i].value = vl at *
          generalize M1.isB vl.data.toList = p at *
          have hI0 : (0 : Int) ≤ (i : Int):=by omega
          have hI1 : (i : Int) < (ats.length : Int):=by omega
          clear hv
          cases p
          · replace hva : Hid (M3.valuesE ats = 2):=hva
            go_wp2_with fail
            refine (hA.out _).mono ?_
            rintro e w2 ⟨rfl,hb2⟩
            go_wp2
            go_ret
            exact ⟨by rw [hr.out,hva.out]; rfl,hb.trans (hb2.mono (by omega))⟩
          · replace hva : Hid (M3.valuesE ats = M3.valuesE (ats.drop (i + 1))):=hva
            go_wp2_with fail
            refine (hA.out _).mono ?_
            rintro e w2 ⟨rfl,hb2⟩
            have hbx2:=hbx.below hb2 hz
            clear hA
            go_wp2_with fail
            go_roundw
            case rel => exact ⟨i + 1,by omega,by go_num,hva,hb.trans (hb2.mono (by omega)),hbx2⟩
            case measure => exact meas_nat hlt
        · obtain rfl : i = ats.length:=by omega
          have hv0 : Hid (M3.valuesE ats = 0):=by show _ = _; rw [hv.out,List.drop_length]; rfl
          clear hv
          go_wp2_with fail
          go_ret
          exact ⟨by rw [hr.out,hv0.out]; rfl,hb⟩
end Go.Proofs.YteefodibpjgicaaGreat
