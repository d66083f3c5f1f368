/- Texts joined: Ref05g, Ref05h. -/
import Derived.Deep.RegionHeld3
import Derived.Deep.AppendLies
import Derived.Test.YteefodibpjgicaaGreatA3
import Derived.Test.YteefodibpjgicaaGreatA10
namespace Go.Proofs.YteefodibpjgicaaGreat
open Go.RowKit
theorem own_below {w w1 : World} {base k : Nat} {e : TypeId} {v : Value} {n : Nat} {xs : List Value} (h : w.ownsRow base e k v n xs) (hb : Below w.heap.size w w1) : w1.ownsRow base e k v n xs :=
  h.kept (row:=none) ⟨hb.os,hb.tape,hb.output,hb.size,fun k hk _ => hb.block k hk⟩ (by cases h : v.ownBlock <;> simp)
theorem infoA5 : (Tryz.prog.info? 43).map (fun i => (i.zero,i.size,i.bytes)) = some (some (.agg #[.string ⟨#[]⟩,.string ⟨#[]⟩]),2,32):=by kernel_rfl
def TokPost (t : Tok) (n : Nat) (w : World) (e : Ending) (w' : World) : Prop:=∃ va,e = .returned (.tuple #[.agg #[.int .i64 t.kind,.string t.name,va,.string t.text],.int .i64 (n : Int)]) ∧ w'.ownsRow w.heap.size 43 2 va t.attrs.length (cellsA t.attrs) ∧ Below w.heap.size w w'
theorem own_slice5 {w : World} {B : Nat} {e : TypeId} {k n : Nat} {v : Value} {xs : List Value} (h : w.ownsRow B e k v n xs) : ∃ a c,v = .slice a n c:=by
  rcases h.2 with ⟨rfl,rfl⟩ | ⟨g,cap,cur,rfl,_⟩
  · exact ⟨none,0,rfl⟩
  · exact ⟨_,_,rfl⟩
theorem own_keep5 {w w' : World} {B : Nat} {e : TypeId} {k n : Nat} {v : Value} {xs : List Value} (h : w.ownsRow B e k v n xs) (hk : ∀ g,v.ownBlock = some g → w'.heap[g]? = w.heap[g]?) : w'.ownsRow B e k v n xs:=by
  refine ⟨h.1,?_⟩
  rcases h.2 with hn | ⟨g,cap,cur,rfl,hb,hg,rest⟩
  · exact .inl hn
  · exact .inr ⟨g,cap,cur,rfl,hb,(hk g rfl).trans hg,rest⟩
theorem below_drewN5 {B : Nat} {a w : World} (h : Below B a w) (n : Nat) : Below B a (w.drewN n):=⟨h.os,h.tape,h.output,h.size,h.block⟩
theorem own_le {w : World} {B B' : Nat} {e : TypeId} {k n : Nat} {v : Value} {xs : List Value} (h : w.ownsRow B e k v n xs) (hb : B' ≤ B) : w.ownsRow B' e k v n xs:=by
  refine ⟨h.1,?_⟩
  rcases h.2 with hn | ⟨g,cap,cur,rfl,h1,rest⟩
  · exact .inl hn
  · exact .inr ⟨g,cap,cur,rfl,Nat.le_trans hb h1,rest⟩
theorem Box.four {W : World} {g : Nat} {t : TypeId} {z0 z1 z2 z3 : Value} (h : Box W g t [z0,z1,z2,z3]) (c0 c1 c2 c3 : Value) : Box ((((W.setCell ⟨g,0,none⟩ c0).setCell ⟨g,1,none⟩ c1).setCell ⟨g,2,none⟩ c2).setCell ⟨g,3,none⟩ c3) g t [c0,c1,c2,c3] :=
  (((h.set 0 c0).set 1 c1).set 2 c2).set 3 c3
theorem four_below {B : Nat} {a W : World} (h : Below B a W) {g : Nat} (c0 c1 c2 c3 : Value) (hg : B ≤ g) : Below B a ((((W.setCell ⟨g,0,none⟩ c0).setCell ⟨g,1,none⟩ c1).setCell ⟨g,2,none⟩ c2).setCell ⟨g,3,none⟩ c3) :=
  (((h.setCell (p:=⟨g,0,none⟩) hg c0).setCell (p:=⟨g,1,none⟩) hg c1).setCell (p:=⟨g,2,none⟩) hg c2).setCell (p:=⟨g,3,none⟩) hg c3
theorem own_set {W : World} {B g j : Nat} {e : TypeId} {k n : Nat} {v : Value} {xs : List Value} (h : W.ownsRow B e k v n xs) (hg : g < B) (c : Value) : (W.setCell ⟨g,j,none⟩ c).ownsRow B e k v n xs :=
  own_keep5 h fun b hb => Below.heap_setCell W ⟨g,j,none⟩ c b (by have:=(h.lt b hb).1; show b ≠ g; omega)
theorem own_four {W : World} {B g : Nat} {e : TypeId} {k n : Nat} {v : Value} {xs : List Value} (h : W.ownsRow B e k v n xs) (hg : g < B) (c0 c1 c2 c3 : Value) : ((((W.setCell ⟨g,0,none⟩ c0).setCell ⟨g,1,none⟩ c1).setCell ⟨g,2,none⟩ c2).setCell ⟨g,3,none⟩ c3).ownsRow B e k v n xs :=
  own_set (own_set (own_set (own_set h hg c0) hg c1) hg c2) hg c3
theorem tokPost_mk {P : Tok × List UInt8} {t : Tok} {l : List UInt8} {k : Nat} {va : Value} {w w' : World} {e : Ending} {B : Nat} (hp : P = (t,l.drop k)) (hk : k ≤ l.length) (he : e = .returned (.tuple #[.agg #[.int .i64 t.kind,.string t.name,va,.string t.text],.int .i64 (k : Int)]))
    (ho : w'.ownsRow B 43 2 va t.attrs.length (cellsA t.attrs)) (hB : w.heap.size ≤ B) (hb : Below w.heap.size w w') : TokPost P.1 (l.length - P.2.length) w e w':=by
  subst hp he
  refine ⟨va,?_,own_le ho hB,hb⟩
  rw [show (l.drop k).length = l.length - k from List.length_drop,show l.length - (l.length - k) = k by omega]
theorem wpList_appOne {P : Program} {ops : Array Oper} {rest : List Oper} {o : Oper} {a : Act} {Q : Exit → Act → World → Prop} (w1 : World) (cs : List Value) (hgd : o.guard = none) (s y : Operand) (t e : TypeId)
    (ho : o.op = .call { callee:=.builtin .append,args:=#[s,y],argTypes:=#[t,t] }) (base k : Nat) {z : Value} {bytes : Nat} (ht : P.underlying t = some (.slice e))
    (hinfo : (P.info? e).map (fun i => (i.zero,i.size,i.bytes)) = some (some z,k,bytes)) (hz : z.cells.size = k) (hk : 0 < k)
    (v : Value) (n : Nat) (xs : List Value) (hs : a.eval s = v) (hown : w1.ownsRow base e k v n xs) (H : Nat) (hH : w1.heap.size = H) (hx : a.eval y = .slice (some ⟨H,0,none⟩) 1 1) (hcs : cs.length = k) (h1 : ∀ u ∈ cs,u.oneCell' = true)
    (h63 : n + 1 ≤ 9223372036854775807) (hbytes : (n + 1) * bytes ≤ 140737488355328) (hbase : base ≤ w1.heap.size)
    (h : ∀ g cap w2,w2.ownsRow base e k (.slice (some ⟨g,0,none⟩) (n + 1) cap) (n + 1) (xs ++ cs) → w1.grownBy w2 v.ownBlock → (v.ownBlock = some g ∨ w1.heap.size ≤ g) → wpList P ops Q rest (a.put o.dst (.slice (some ⟨g,0,none⟩) (n + 1) cap)) w2) : wpList P ops Q (o :: rest) a (w1.alloc (.cells cs.toArray e)):=by
  subst hH
  obtain ⟨i,hi,hz0,hz1,hz2⟩:=info_parts hinfo
  refine wpList_append_lies _ hgd s y t ho base e i z k bytes ht hi hz0 hz1 hz2 hz hk v n xs hs (hown.alloc _) ⟨w1.heap.size,0,none⟩ 1 1 cs hx (by omega) ?_ h1 (by omega) (by unfold maxLen; omega) hbytes (by simp; omega) _ rfl ?_
  · intro j u hj
    rw [add_plain',Nat.zero_add,World.cell?_alloc_at _ _ _ _ rfl]
    simpa using hj
  · intro g cap w2 h2 h3 h4 _
    exact h g cap w2 h2 (grownBy_of_alloc h3) (by
      rcases h4 with h4 | h4
      · exact .inl h4
      · right; rw [h4]; simp)
set_option maxHeartbeats 4000000 in
set_option maxRecDepth 100000 in
theorem ref05begin (s : ByteArray) (w : World) (hs : s.size ≤ 1073741824) (h1 : 1 ≤ s.size) :
    Calls Tryz.prog 86 #[.string s] w (TokPost (M5.beginR s.data.toList).1 (s.size - (M5.beginR s.data.toList).2.length) w):=by
  obtain ⟨A0,hA⟩ : ∃ A,Hid (A = 1 + M5.spanN M5.nameB (s.data.toList.drop 1)):=⟨1 + M5.spanN M5.nameB (s.data.toList.drop 1),Lib.hid rfl⟩
  have hAs : A0 ≤ s.size:=by rw [hA.out]; exact span_bound _ s 1 h1
  obtain ⟨nm,hnm⟩ : ∃ nm : ByteArray,Hid (nm = M5.bs (M1.fold ((s.data.toList.drop 1).takeWhile M5.nameB))):=⟨M5.bs (M1.fold ((s.data.toList.drop 1).takeWhile M5.nameB)),Lib.hid rfl⟩
  have hn : Hid (∀ w,Calls Tryz.prog 89 #[.string s,.int .i64 1] w (fun e w' => e = .returned (.tuple #[.string nm,.int .i64 (A0 : Int)]) ∧ Below w.heap.size w w')):=Lib.hid fun w => by
    refine (ref05name s 1 w hs h1).mono ?_
    rintro e w' ⟨rfl,hb⟩
    exact ⟨by rw [hnm.out,hA.out]; rfl,hb⟩
  have hbe : Hid (M5.beginR s.data.toList = match M5.attsR (s.data.toList.drop A0) [] with
      | some (as_,r) => (⟨1,nm,as_,⟨#[]⟩⟩,r)
      | none => (M5.zero,[])):=by
    show _ = _
    rw [M5.begin_eq,hnm.out,drop_while,← hA.out]
    try (cases M5.attsR (s.data.toList.drop A0) [] <;> rfl)
  have hbl:=Lib.hid (fun (i : Nat) (h : i < s.size) (w : World) => ref05blank s[i] w)
  generalize hP : M5.beginR s.data.toList = P at *
  replace hP:=Lib.hid hP
  obtain ⟨wo,rfl⟩ : ∃ wo : World,wo = w:=⟨_,rfl⟩
  go_enter Tryz.func86,Tryz.ntmps86
  go_wp2_with (go_at_call 89; refine (hn.out _).mono ?_; rintro e1 w1 ⟨rfl,hb1⟩)
  have bz1:=(Box.new wo 87 [.int .i64 0,.string ⟨#[]⟩,.slice none 0 0,.string ⟨#[]⟩]).below hb1 (by simp)
  have b1 : Below wo.heap.size wo w1:=bt ((Below.refl _ wo).alloc (Nat.le_refl _) _) hb1
  have hs1 : wo.heap.size < w1.heap.size:=bz1.lt
  go_loopw [5] (fun u5 wr => ∃ (i : Nat) (acc : List Att) (va : Value),i ≤ s.size ∧ u5 = .int .i64 (i : Int) ∧ Box wr wo.heap.size 87 [.int .i64 0,.string ⟨#[]⟩,.slice none 0 0,.string ⟨#[]⟩] ∧ Box wr w1.heap.size 87 [.int .i64 1,.string nm,va,.string ⟨#[]⟩] ∧ wr.ownsRow (w1.heap.size + 1) 43 2 va acc.length (cellsA acc) ∧ Below wo.heap.size wo wr ∧ acc.length ≤ i ∧ Hid (M5.attsR (s.data.toList.drop A0) [] = M5.attsR (s.data.toList.drop i) acc)) (fun u5 _ => s.size - (intOf u5).toNat)
  case atStart => exact ⟨A0,[],.slice none 0 0,hAs,rfl,bz1.alloc _,Box.new w1 87 [.int .i64 1,.string nm,.slice none 0 0,.string ⟨#[]⟩],World.ownsRow_nil _ _ _ _,b1.alloc (by omega) _,Nat.zero_le _,Lib.hid rfl⟩
  case round =>
    obtain ⟨i,acc,va,hi,rfl,bz,bx,hown,hb,hal,hv⟩:=hrel
    have z0:=bz.cell (i:=0) rfl
    have z1:=bz.cell (i:=1) rfl
    have z2:=bz.cell (i:=2) rfl
    have z3:=bz.cell (i:=3) rfl
    have fz:=bz.free
    have hz:=wr.heap.size
    by_cases hil : i < s.size
    · have hB:=Lib.hid (fun w => hbl.out i hil w)
      have hcons:=drop_cons s i hil
      have hv1:=hv.out
      rw [hcons,M5.attsR_cons] at hv1
      rw [← hcons] at hv1
      replace hcons:=Lib.hid hcons
      cases h62 : (s[i] == 62)
      · rw [if_neg (by simpa using h62)] at hv1
        have e62 : ((s[i].toNat : Int) == 62) = false:=by rw [show ((s[i].toNat : Int) == 62) = (s[i] == 62) from (eqI _ 62).symm]; exact h62
        have e47 : ((s[i].toNat : Int) == 47) = (s[i] == 47):=(eqI _ 47).symm
        have e61 : ((s[i].toNat : Int) == 61) = (s[i] == 61):=(eqI _ 61).symm
        have hlt : M5.stopB s[i] = false → ∃ (a : Att) (K : Nat) (ok : Bool),i < K ∧ K ≤ s.size ∧ Hid (M5.attrAt (s.data.toList.drop i) = (a,s.data.toList.drop K,ok)):=fun h => by
          have h1:=M5.attr_lt s[i] (s.data.toList.drop (i + 1)) h
          rw [← hcons.out] at h1
          obtain ⟨k,hk,hr⟩:=M5.attr_suf (s.data.toList.drop i)
          have hdl : (s.data.toList.drop i).length = s.size - i:=List.length_drop
          rw [List.drop_drop] at hr
          rw [hr,List.length_drop,hdl] at h1
          have hsl : s.data.toList.length = s.size:=rfl
          exact ⟨(M5.attrAt (s.data.toList.drop i)).1,i + k,(M5.attrAt (s.data.toList.drop i)).2.2,by omega,by omega,Lib.hid (by rw [← hr])⟩
        have hsB : M5.stopB s[i] = (M5.blankB s[i] || s[i] == 47 || s[i] == 61):=by rw [M5.stopB,h62,Bool.or_false]
        have hst : M5.stopB s[i] = true → Hid (M5.attsR (s.data.toList.drop A0) [] = M5.attsR (s.data.toList.drop (i + 1)) acc):=fun h => by
          show _ = _; rw [hv.out,← hv.out,hv1,if_pos h]
        have hat : M5.stopB s[i] = false → Hid (M5.attsR (s.data.toList.drop A0) [] = if (M5.attrAt (s.data.toList.drop i)).2.2 then M5.attsR (M5.attrAt (s.data.toList.drop i)).2.1 (M5.addT acc (M5.attrAt (s.data.toList.drop i)).1) else none):=fun h => by
          show _ = _; rw [hv1,if_neg (by rw [h]; exact Bool.false_ne_true)]
        rw [hsB] at hst hat hlt
        clear hv1 hv hsB
        replace h62:=Lib.hid h62
        generalize hb0 : M5.blankB s[i] = bl at *
        cases bl
        · rcases Bool.eq_false_or_eq_true (s[i] == 47) with h4 | h4
          · rw [h4] at hst e47
            replace hst:=hst rfl
            clear hat hlt
            replace h4:=Lib.hid h4
            go_wp2_with (go_at_call 91; refine (hB.out _).mono ?_; rintro e1 w2 ⟨rfl,rfl⟩)
            go_roundw
            case rel => exact ⟨i + 1,acc,va,by omega,by go_num,bz,bx,hown,hb,by omega,hst.out⟩
            case measure => exact rf_meas hil
          · rcases Bool.eq_false_or_eq_true (s[i] == 61) with h6 | h6
            · rw [h6,h4] at hst
              rw [h4] at e47
              rw [h6] at e61
              replace hst:=hst rfl
              clear hat hlt
              replace h4:=Lib.hid h4
              replace h6:=Lib.hid h6
              go_wp2_with (go_at_call 91; refine (hB.out _).mono ?_; rintro e1 w2 ⟨rfl,rfl⟩)
              go_roundw
              case rel => exact ⟨i + 1,acc,va,by omega,by go_num,bz,bx,hown,hb,by omega,hst.out⟩
              case measure => exact rf_meas hil
            · rw [h6,h4] at hat hlt
              rw [h4] at e47
              rw [h6] at e61
              replace hat:=hat rfl
              obtain ⟨at0,K,ok,hiK,hKs,hp⟩:=hlt rfl
              clear hst
              replace h4:=Lib.hid h4
              replace h6:=Lib.hid h6
              have hat2 : Hid (M5.attsR (s.data.toList.drop A0) [] = if ok then M5.attsR (s.data.toList.drop K) (M5.addT acc at0) else none):=by show _ = _; rw [hat.out,hp.out]
              clear hat
              have hAt : Hid (∀ w,Calls Tryz.prog 101 #[.string s,.int .i64 (i : Int)] w (fun e w' => e = .returned (.tuple #[.agg #[.string at0.name,.string at0.value],.int .i64 (K : Int),.bool ok]) ∧ Below w.heap.size w w')):=Lib.hid fun w => by
                refine (ref05attribute s i w hs hi).mono ?_
                rintro e w' ⟨rfl,hb⟩
                refine ⟨?_,hb⟩
                rw [hp.out,show (s.data.toList.drop K).length = s.size - K from List.length_drop,show s.size - (s.size - K) = K by omega]
              go_wp2_with (go_at_call 91; refine (hB.out _).mono ?_; rintro e1 w2 ⟨rfl,rfl⟩)
              refine (hAt.out _).mono ?_
              rintro e1 w2 ⟨rfl,hb2⟩
              replace hb:=Lib.hid (bt hb hb2)
              have bz2:=(bz.below hb2 bz.lt).alloc (.cells #[.string at0.name,.string at0.value] 43)
              have bx2:=(bx.below hb2 bx.lt).alloc (.cells #[.string at0.name,.string at0.value] 43)
              have ba2:=Box.new w2 43 [.string at0.name,.string at0.value]
              have hown2:=(own_below hown hb2).alloc (.cells #[.string at0.name,.string at0.value] 43)
              have hbW:=Lib.hid (hb.out.alloc hb.out.size (.cells #[.string at0.name,.string at0.value] 43))
              have hx2:=bx2.lt
              have hz2:=bz2.lt
              have z0:=bz2.cell (i:=0) rfl
              have z1:=bz2.cell (i:=1) rfl
              have z2:=bz2.cell (i:=2) rfl
              have z3:=bz2.cell (i:=3) rfl
              have fz:=bz2.free
              cases ok
              · have hin : Hid (P = (M5.zero,[])):=by show _ = _; rw [hbe.out,hat2.out]; rfl
                go_wp2_with fail
                have bf:=bz2.four (.int .i64 0) (.string ⟨#[]⟩) (.slice none 0 0) (.string ⟨#[]⟩)
                have q0:=bf.cell (i:=0) rfl
                have q1:=bf.cell (i:=1) rfl
                have q2:=bf.cell (i:=2) rfl
                have q3:=bf.cell (i:=3) rfl
                exact bodyPost_ret (v:=.tuple #[.agg #[.int .i64 0,.string ⟨#[]⟩,.slice none 0 0,.string ⟨#[]⟩],.int .i64 (s.size : Int)]) (by simp [results,Tryz.results86,go_sem,q0,q1,q2,q3]) rfl (tokPost_mk (t:=M5.zero) (k:=s.size) (by rw [hin.out,drop_end s s.size (Nat.le_refl _)]) (Nat.le_refl _) rfl (World.ownsRow_nil _ wo.heap.size _ _) (Nat.le_refl _) (four_below hbW.out _ _ _ _ (Nat.le_refl _)))
              · rw [if_pos rfl] at hat2
                obtain ⟨va,cap,rfl⟩:=own_slice5 hown2
                have x2:=bx2.cell (i:=2) rfl
                have y0:=ba2.cell (i:=0) rfl
                go_upto_block 2 with fail
                go_cut [10,11] (fun s10 s11 wx => s10 = .bool (acc.any fun b => M3.eqB b.name at0.name) ∧ wx.heap = (w2.alloc (.cells #[.string at0.name,.string at0.value] 43)).heap ∧ Below wo.heap.size wo wx)
                case first =>
                  go_wp2_with fail
                  go_loopw [10,11] (fun u10 u11 wq => ∃ k : Nat,k ≤ acc.length ∧ u11 = .int .i64 (k : Int) ∧ u10 = .bool ((acc.take k).any fun b => M3.eqB b.name at0.name) ∧ Hid (wq.heap = (w2.alloc (.cells #[.string at0.name,.string at0.value] 43)).heap) ∧ Below wo.heap.size wo wq) (fun _ u11 _ => acc.length - (intOf u11).toNat)
                  case atStart => exact ⟨0,by omega,rfl,rfl,Lib.hid rfl,hbW.out⟩
                  case round =>
                    obtain ⟨k,hk,rfl,rfl,hhp,hbq⟩:=hrel
                    have x2:=(bx2.keep (w':=wr) (by rw [hhp.out])).cell (i:=2) rfl
                    have y0:=(ba2.keep (w':=wr) (by rw [hhp.out])).cell (i:=0) rfl
                    by_cases hkl : k < acc.length
                    · obtain ⟨b',off',rfl,_,q0,q1⟩:=(Row.own (S:=fun _ => True) (own_keep5 (w':=wr) hown2 (fun g _ => by rw [hhp.out])) (fun _ _ => trivial)).atA k hkl
                      have hstep : ((acc.take (k + 1)).any fun b => M3.eqB b.name at0.name) = (((acc.take k).any fun b => M3.eqB b.name at0.name) || (acc[k].name.toList == at0.name.toList)):=by
                        rw [List.take_succ_eq_append_getElem hkl,List.any_append,List.any_cons,List.any_nil,Bool.or_false]; rfl
                      generalize hA1 : ((acc.take (k + 1)).any fun b => M3.eqB b.name at0.name) = had1 at *
                      generalize hA2 : ((acc.take k).any fun b => M3.eqB b.name at0.name) = had0 at *
                      replace hA1:=Lib.hid hA1
                      replace hA2:=Lib.hid hA2
                      cases had0
                      · generalize acc[k].name = kn at *
                        cases hkn : (kn.toList == at0.name.toList)
                        · have hh : had1 = false:=by rw [hstep,hkn]; rfl
                          clear hstep
                          go_wp2_with fail
                          go_quiet (fail)
                          go_wp2_with fail
                          go_roundw
                          case rel => exact ⟨k + 1,by omega,by go_num,by rw [hA1.out,hh],hhp,below_drewN5 hbq _⟩
                          case measure => simp [intOf]; omega
                        · have hh : had1 = true:=by rw [hstep,hkn]; rfl
                          clear hstep
                          go_wp2_with fail
                          go_quiet (fail)
                          go_wp2_with fail
                          go_roundw
                          case rel => exact ⟨k + 1,by omega,by go_num,by rw [hA1.out,hh],hhp,below_drewN5 hbq _⟩
                          case measure => simp [intOf]; omega
                      · have hh : had1 = true:=by rw [hstep]; rfl
                        clear hstep
                        go_wp2_with fail
                        go_quiet (fail)
                        go_wp2_with fail
                        go_roundw
                        case rel => exact ⟨k + 1,by omega,by go_num,by rw [hA1.out,hh],hhp,below_drewN5 hbq _⟩
                        case measure => simp [intOf]; omega
                    · obtain rfl : k = acc.length:=by omega
                      rw [List.take_length]
                      generalize (acc.any fun b => M3.eqB b.name at0.name) = had0 at *
                      go_wp2_with fail
                      go_meet
                      case rel => exact ⟨rfl,hhp.out,hbq⟩
                case rest =>
                  obtain ⟨rfl,hhp,hbq⟩:=hcut
                  have x2:=(bx2.keep (w':=wc) (by rw [hhp])).cell (i:=2) rfl
                  have fx:=(bx2.keep (w':=wc) (by rw [hhp])).free
                  have y0:=(ba2.keep (w':=wc) (by rw [hhp])).cell (i:=0) rfl
                  have y1:=(ba2.keep (w':=wc) (by rw [hhp])).cell (i:=1) rfl
                  have hown3:=own_keep5 (w':=wc) hown2 (fun g _ => by rw [hhp])
                  cases hhad : (acc.any fun b => M3.eqB b.name at0.name)
                  · have hadd : M5.addT acc at0 = acc ++ [at0]:=by rw [M5.addT,hhad]; rfl
                    rw [hadd] at hat2
                    have hcA : cellsA acc ++ [.string at0.name,.string at0.value] = cellsA (acc ++ [at0]):=by rw [cellsA_append]; rfl
                    have hwc : wc.heap.size = w2.heap.size + 1:=by rw [hhp]; simp
                    have bzc:=bz2.keep (w':=wc) (by rw [hhp])
                    have bxc:=bx2.keep (w':=wc) (by rw [hhp])
                    have hws : w1.heap.size + 1 ≤ w2.heap.size:=by have:=(bx.below hb2 bx.lt).lt; omega
                    replace hhad:=Lib.hid hhad
                    replace hcA:=Lib.hid hcA
                    replace hadd:=Lib.hid hadd
                    replace hown3:=Lib.hid hown3
                    replace bzc:=Lib.hid bzc
                    replace bxc:=Lib.hid bxc
                    replace hwc:=Lib.hid hwc
                    go_wp2_with (at_builtin; refine wpList_appOne _ [.string at0.name,.string at0.value] rfl _ _ 39 43 rfl (w1.heap.size + 1) 2 Tryz.underlying39 infoA5 rfl (by omega) _ acc.length (cellsA acc) rfl hown3.out (w2.heap.size + 1) hwc.out (by rfl) rfl (by simp [Value.oneCell']) (by omega) (by omega) (by have:=hwc.out; omega) ?_; intro gg cap' w5 hown5 hgrow hat5; have bx5:=bxc.out.keep (hgrow.block _ bxc.out.lt (fun e => by have:=(hown3.out.lt _ e.symm).1; omega)); have bz5:=bzc.out.keep (hgrow.block _ bzc.out.lt (fun e => by have:=(hown3.out.lt _ e.symm).1; omega)); have c5:=bx5.cell (i:=2) rfl; have f5:=bx5.free 2)
                    have hb5:=hbq.grown hgrow hbq.size (fun g hg => by have:=(hown3.out.lt g hg).1; omega)
                    have hb6 : Below wo.heap.size wo (w5.setCell ⟨w1.heap.size,2,none⟩ (.slice (some ⟨gg,0,none⟩) (acc.length + 1) cap')):=hb5.setCell (p:=⟨w1.heap.size,2,none⟩) (by show wo.heap.size ≤ w1.heap.size; omega) _
                    have bz6:=bz5.far (p:=⟨w1.heap.size,2,none⟩) (by show wo.heap.size ≠ w1.heap.size; omega) (.slice (some ⟨gg,0,none⟩) (acc.length + 1) cap')
                    have bx6:=bx5.set 2 (.slice (some ⟨gg,0,none⟩) (acc.length + 1) cap')
                    have hown6:=own_set (g:=w1.heap.size) (j:=2) hown5 (by omega) (.slice (some ⟨gg,0,none⟩) (acc.length + 1) cap')
                    rw [hcA.out] at hown6
                    go_roundw
                    case rel => exact ⟨K,acc ++ [at0],.slice (some ⟨gg,0,none⟩) (acc.length + 1) cap',hKs,rfl,bz6,bx6,by rw [List.length_append]; exact hown6,hb6,by rw [List.length_append]; show acc.length + 1 ≤ K; omega,hat2⟩
                    case measure => simp [intOf]; omega
                  · have hadd : M5.addT acc at0 = acc:=by rw [M5.addT,hhad]; rfl
                    rw [hadd] at hat2
                    replace hhad:=Lib.hid hhad
                    go_wp2_with fail
                    go_roundw
                    case rel => exact ⟨K,acc,.slice va acc.length cap,hKs,rfl,bz2.keep (by rw [hhp]),bx2.keep (by rw [hhp]),own_keep5 hown2 (fun g _ => by rw [hhp]),hbq,by omega,hat2⟩
                    case measure => simp [intOf]; omega
        · replace hst:=hst rfl
          clear hat hlt e47 e61
          go_wp2_with (go_at_call 91; refine (hB.out _).mono ?_; rintro e1 w2 ⟨rfl,rfl⟩)
          go_roundw
          case rel => exact ⟨i + 1,acc,va,by omega,by go_num,bz,bx,hown,hb,by omega,hst.out⟩
          case measure => exact rf_meas hil
      · rw [if_pos (by simpa using h62)] at hv1
        have hbe1 : Hid (P = (⟨1,nm,acc,⟨#[]⟩⟩,s.data.toList.drop (i + 1))):=by
          show _ = _; rw [hbe.out,hv1]
        clear hv1 hv
        have e62 : ((s[i].toNat : Int) == 62) = true:=by rw [show ((s[i].toNat : Int) == 62) = (s[i] == 62) from (eqI _ 62).symm]; exact h62
        replace h62:=Lib.hid h62
        obtain ⟨a,cap,rfl⟩:=own_slice5 hown
        have t0:=bx.cell (i:=0) rfl
        have t1:=bx.cell (i:=1) rfl
        have t2:=bx.cell (i:=2) rfl
        have t3:=bx.cell (i:=3) rfl
        go_wp2_with fail
        have bf:=bz.four (.int .i64 1) (.string nm) (.slice a acc.length cap) (.string ⟨#[]⟩)
        have q0:=bf.cell (i:=0) rfl
        have q1:=bf.cell (i:=1) rfl
        have q2:=bf.cell (i:=2) rfl
        have q3:=bf.cell (i:=3) rfl
        exact bodyPost_ret (v:=.tuple #[.agg #[.int .i64 1,.string nm,.slice a acc.length cap,.string ⟨#[]⟩],.int .i64 ((i + 1 : Nat) : Int)]) (by simp [results,Tryz.results86,go_sem,q0,q1,q2,q3]) rfl (tokPost_mk (t:=⟨1,nm,acc,⟨#[]⟩⟩) (k:=i + 1) hbe1.out hil rfl (own_four hown (by omega) _ _ _ _) (by omega) (four_below hb _ _ _ _ (Nat.le_refl _)))
    · have hin : Hid (P = (M5.zero,[])):=by
        show _ = _
        rw [hbe.out,hv.out,drop_end s i (by omega),M5.attsR_nil]
      clear hv
      go_wp2_with fail
      have bf:=bz.four (.int .i64 0) (.string ⟨#[]⟩) (.slice none 0 0) (.string ⟨#[]⟩)
      have q0:=bf.cell (i:=0) rfl
      have q1:=bf.cell (i:=1) rfl
      have q2:=bf.cell (i:=2) rfl
      have q3:=bf.cell (i:=3) rfl
      exact bodyPost_ret (v:=.tuple #[.agg #[.int .i64 0,.string ⟨#[]⟩,.slice none 0 0,.string ⟨#[]⟩],.int .i64 (s.size : Int)]) (by simp [results,Tryz.results86,go_sem,q0,q1,q2,q3]) rfl (tokPost_mk (t:=M5.zero) (k:=s.size) (by rw [hin.out,drop_end s s.size (Nat.le_refl _)]) (Nat.le_refl _) rfl (World.ownsRow_nil _ wo.heap.size _ _) (Nat.le_refl _) (four_below hb _ _ _ _ (Nat.le_refl _)))
end Go.Proofs.YteefodibpjgicaaGreat

namespace Go.Proofs.YteefodibpjgicaaGreat
open Go.RowKit
theorem two_signs {s : ByteArray} (h : M5.startsB s.data.toList = true) : ∃ h2 : 1 < s.size,s.data.toList = s[0] :: s[1] :: s.data.toList.drop 2:=by
  have h2 : 1 < s.size:=by
    rcases Nat.lt_or_ge 1 s.size with h1 | h1
    · exact h1
    · have hl : s.data.toList.length ≤ 1:=h1
      match hs : s.data.toList,hl with
      | [],_ => rw [hs] at h; cases h
      | [c],_ => rw [hs] at h; cases h
  exact ⟨h2,by rw [← drop_cons s 1 h2,← drop_cons s 0 (by omega)]; rfl⟩
theorem tag_no (l : List UInt8) (h : M5.startsB l = false) : M5.tagR l = (M5.zero,l.drop 0):=by
  unfold M5.tagR
  rw [h]
  rfl
theorem tag_begin (c d : UInt8) (r : List UInt8) (h : M5.startsB (c :: d :: r) = true) (hd : M5.letterB d = true) : M5.tagR (c :: d :: r) = M5.beginR (c :: d :: r):=by
  unfold M5.tagR
  rw [if_pos h]
  show (if M5.letterB d then _ else _ : Tok × List UInt8) = _
  rw [if_pos hd]
theorem tag_else (c d : UInt8) (r : List UInt8) (h : M5.startsB (c :: d :: r) = true) (hd : M5.letterB d = false) : M5.tagR (c :: d :: r) =
    if [60,33,45,45].isPrefixOf (c :: d :: r) then (⟨4,⟨#[]⟩,[],M5.bs (M5.uptoR [45,45,62] ((c :: d :: r).drop 4)).1⟩,(M5.uptoR [45,45,62] ((c :: d :: r).drop 4)).2)
    else if [60,47,62].isPrefixOf (c :: d :: r) then (M5.zero,(c :: d :: r).drop 3)
    else if d = 47 ∧ (r.head?.map M5.letterB) = some true then
      (if M5.findL [62] r < r.length then (⟨2,M5.bs (M1.fold (r.takeWhile M5.nameB)),[],⟨#[]⟩⟩,r.drop (M5.findL [62] r + 1)) else (M5.zero,[]))
    else (⟨4,⟨#[]⟩,[],M5.bs (M5.uptoR [62] r).1⟩,(M5.uptoR [62] r).2):=by
  unfold M5.tagR
  rw [if_pos h]
  show (if M5.letterB d then _ else _ : Tok × List UInt8) = _
  rw [if_neg (by rw [hd]; exact Bool.false_ne_true)]
set_option maxHeartbeats 4000000 in
set_option maxRecDepth 100000 in
theorem ref05Tag_easy (s : ByteArray) (w : World) (hs : s.size ≤ 1073741824) (heasy : M5.startsB s.data.toList = true → ∀ h2 : 1 < s.size,M5.letterB s[1] = true) :
    Calls Tryz.prog 68 #[.string s] w (TokPost (M5.tagR s.data.toList).1 (s.size - (M5.tagR s.data.toList).2.length) w):=by
  have hst:=Lib.hid (fun w => ref05Starts s w hs)
  replace heasy:=Lib.hid heasy
  obtain ⟨wo,rfl⟩ : ∃ wo : World,wo = w:=⟨_,rfl⟩
  cases hsB : M5.startsB s.data.toList
  · have hP:=Lib.hid (tag_no _ hsB)
    generalize M5.tagR s.data.toList = P at *
    go_enter Tryz.func68,Tryz.ntmps68
    go_wp2_with (go_at_call 66; refine (hst.out _).mono ?_; rintro e1 w2 ⟨rfl,rfl⟩; rw [hsB])
    have bf:=Box.new wo 87 [.int .i64 0,.string ⟨#[]⟩,.slice none 0 0,.string ⟨#[]⟩]
    have q0:=bf.cell (i:=0) rfl
    have q1:=bf.cell (i:=1) rfl
    have q2:=bf.cell (i:=2) rfl
    have q3:=bf.cell (i:=3) rfl
    exact bodyPost_ret (v:=.tuple #[.agg #[.int .i64 0,.string ⟨#[]⟩,.slice none 0 0,.string ⟨#[]⟩],.int .i64 0]) (by simp [results,Tryz.results68,go_sem,q0,q1,q2,q3]) rfl (tokPost_mk (t:=M5.zero) (k:=0) hP.out (Nat.zero_le _) rfl (World.ownsRow_nil _ wo.heap.size _ _) (Nat.le_refl _) ((Below.refl _ wo).alloc (Nat.le_refl _) _))
  · obtain ⟨h2,hl⟩:=two_signs hsB
    have hle:=Lib.hid (fun w => ref05letter s[1] w)
    cases hlt : M5.letterB s[1]
    · exact absurd (heasy.out hsB h2) (by rw [hlt]; exact Bool.false_ne_true)
    · have hP : Hid (M5.tagR s.data.toList = M5.beginR s.data.toList):=by
        show _ = _
        rw [hl] at hsB ⊢
        exact tag_begin _ _ _ hsB hlt
      have hbg:=Lib.hid (fun w => ref05begin s w hs (by omega))
      rw [hP.out]
      clear hP
      generalize M5.beginR s.data.toList = P at *
      replace hl:=Lib.hid hl
      go_enter Tryz.func68,Tryz.ntmps68
      go_wp2_with (first | (go_at_call 66; refine (hst.out _).mono ?_; rintro e1 w2 ⟨rfl,rfl⟩; rw [hsB]) | (go_at_call 84; refine (hle.out _).mono ?_; rintro e1 w2 ⟨rfl,rfl⟩; rw [hlt]))
      refine (hbg.out _).mono ?_
      rintro e1 w2 ⟨va,rfl,hown,hb2⟩
      have bz2:=(Box.new wo 87 [.int .i64 0,.string ⟨#[]⟩,.slice none 0 0,.string ⟨#[]⟩]).below hb2 (by simp)
      obtain ⟨a,cap,rfl⟩:=own_slice5 hown
      have z0:=bz2.cell (i:=0) rfl
      have z1:=bz2.cell (i:=1) rfl
      have z2:=bz2.cell (i:=2) rfl
      have z3:=bz2.cell (i:=3) rfl
      have fz:=bz2.free
      have hbW:=bt ((Below.refl _ wo).alloc (Nat.le_refl _) (.cells #[.int .i64 0,.string ⟨#[]⟩,.slice none 0 0,.string ⟨#[]⟩] 87)) hb2
      go_wp2_with fail
      have bf:=bz2.four (.int .i64 P.1.kind) (.string P.1.name) (.slice a P.1.attrs.length cap) (.string P.1.text)
      have q0:=bf.cell (i:=0) rfl
      have q1:=bf.cell (i:=1) rfl
      have q2:=bf.cell (i:=2) rfl
      have q3:=bf.cell (i:=3) rfl
      have ho4:=own_four (g:=wo.heap.size) hown (by simp) (.int .i64 P.1.kind) (.string P.1.name) (.slice a P.1.attrs.length cap) (.string P.1.text)
      exact bodyPost_ret (v:=.tuple #[.agg #[.int .i64 P.1.kind,.string P.1.name,.slice a P.1.attrs.length cap,.string P.1.text],.int .i64 ((s.size - P.2.length : Nat) : Int)]) (by simp [results,Tryz.results68,go_sem,q0,q1,q2,q3]) rfl ⟨_,rfl,own_le ho4 (by simp),four_below hbW _ _ _ _ (Nat.le_refl _)⟩
theorem cut4 (s : ByteArray) (k : Nat) (wd : ByteArray) (hk : wd.size = k) : ((s.extract 0 k).toList == wd.toList) = wd.data.toList.isPrefixOf s.data.toList:=by
  subst hk
  rw [Lib.toList_data,Lib.toList_data,Lib.extract_data,List.drop_zero,Nat.sub_zero]
  show ((s.data.toList.take wd.data.toList.length) == wd.data.toList) = _
  generalize wd.data.toList = a
  generalize s.data.toList = l
  induction a generalizing l with
  | nil => simp
  | cons x a ih =>
    cases l with
    | nil => rfl
    | cons y l =>
      show (y :: l.take a.length == x :: a) = (x == y && a.isPrefixOf l)
      rw [← ih l]
      show (y == x && (l.take a.length == a)) = _
      rw [Bool.beq_comm]
end Go.Proofs.YteefodibpjgicaaGreat
