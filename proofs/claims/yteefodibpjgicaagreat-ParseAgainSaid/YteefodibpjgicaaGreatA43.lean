/- Texts joined: Tok7. -/
import Derived.Maps.OwnSet
import Derived.Maps.AppendAt
import Derived.Test.YteefodibpjgicaaGreatA14
import Derived.Test.YteefodibpjgicaaGreatA42
namespace Go.Proofs.YteefodibpjgicaaGreat
open Go.RowKit Go.Maps
theorem zeroUnit (w : World) : (zeroValue 116).run Tryz.prog w = .ok (.agg #[]) w:=by kernel_rfl
theorem keyS : Keyed Tryz.prog 9:=string_keyed Tryz.underlying9
def keyL (a : Att) : Lit:=.string a.name.data.toList
def stoodD (acc : List Att) : DataW Unit:=setOf (H:=Unit) (.agg []) (acc.map keyL)
theorem keyL_isKey (acc : List Att) : ∀ x ∈ acc.map keyL,WideAt.IsKeyLit x:=by
  intro x hx
  obtain ⟨a,_,rfl⟩:=List.mem_map.1 hx
  exact trivial
theorem has_stood (acc : List Att) (nm : ByteArray) : Maps.has (stoodD acc) (.string nm.data.toList) = acc.any fun b => M3.eqB b.name nm:=by
  unfold stoodD
  rw [has_setOf _ _ _ (keyL_isKey acc),List.any_map]
  congr 1
  funext b
  show (Lit.string b.name.data.toList).sameKey (.string nm.data.toList) = M3.eqB b.name nm
  unfold M3.eqB
  rw [Lib.toList_data,Lib.toList_data]
  rfl
theorem stood_snoc (acc : List Att) (a : Att) : stoodD (acc ++ [a]) = (stoodD acc).put (.string a.name.data.toList) (.agg []):=by
  unfold stoodD
  rw [List.map_append,List.map_cons,List.map_nil,setOf_snoc]
  rfl
theorem stood_nil : stoodD [] = .map []:=rfl
theorem betw_over : betwB = M5.overB:=rfl
theorem own_off {W : World} {B g j : Nat} {e : TypeId} {k n : Nat} {v : Value} {xs : List Value} (h : W.ownsRow B e k v n xs) (hg : ∀ b,v.ownBlock = some b → b ≠ g) (c : Value) : (W.setCell ⟨g,j,none⟩ c).ownsRow B e k v n xs :=
  own_keep5 h fun b hb => Below.heap_setCell W ⟨g,j,none⟩ c b (hg b hb)
def strLen : Value → Nat
  | .string s => s.size
  | _ => 0
theorem attr2 (s : ByteArray) (hs : s.size ≤ 1073741824) : ∀ w,Calls Tryz.prog 173 #[.string s] w (fun e w' => e = .returned (.tuple #[.agg #[.string (M5.attC s.data.toList).1.name,.string (M5.attC s.data.toList).1.value],.string (M5.bs (M5.attC s.data.toList).2)]) ∧ Below w.heap.size w w'):=fun w => tokAttribute s w hs
theorem tokPost_own {t : Tok} {n : Nat} {z : Int} {va : Value} {B : Nat} {w w' : World} (hz : z = (n : Int)) (ho : w'.ownsRow B 43 2 va t.attrs.length (cellsA t.attrs)) (hB : w.heap.size ≤ B) (hb : Below w.heap.size w w') :
    TokPost t n w (.returned (.tuple #[.agg #[.int .i64 t.kind,.string t.name,va,.string t.text],.int .i64 z])) w':=by
  subst hz
  exact ⟨va,rfl,own_le ho hB,hb⟩
set_option maxHeartbeats 8000000 in
set_option maxRecDepth 100000 in
theorem tokBegin (s : ByteArray) (w : World) (hs : s.size ≤ 1073741824) (h1 : 1 ≤ s.size) :
    Calls Tryz.prog 163 #[.string s] w (TokPost (M5.beginR s.data.toList).1 (s.size - (M5.beginR s.data.toList).2.length) w):=by
  have hx : (s.extract 1 s.size).data.toList = s.data.toList.drop 1:=by rw [dropk_bs,M5.bs_data]
  have hxs : (s.extract 1 s.size).size ≤ 1073741824:=by rw [ByteArray.size_extract]; omega
  have hN:=named2 (s.extract 1 s.size) hxs
  rw [hx] at hN
  obtain ⟨nm,hnm⟩ : ∃ x,Hid (x = M5.bs (M1.fold ((s.data.toList.drop 1).takeWhile M5.nameB))):=⟨_,rfl⟩
  obtain ⟨R0,hR0⟩ : ∃ x,Hid (x = (s.data.toList.drop 1).dropWhile M5.nameB):=⟨_,rfl⟩
  rw [← hnm.out,← hR0.out] at hN
  have hR0l : R0.length ≤ s.size:=by
    have h2:=((M5.Suf.dropWhile M5.nameB (s.data.toList.drop 1)).trans (M5.Suf.drop _ _)).le
    rw [← hR0.out] at h2
    exact h2
  have hbe : Hid (M5.beginR s.data.toList = match M5.attsR R0 [] with
      | some (as_,r) => (⟨1,nm,as_,⟨#[]⟩⟩,r)
      | none => (M5.zero,[])):=by
    show _ = _
    rw [M5.begin_eq,hnm.out,hR0.out]
    try (cases M5.attsR ((s.data.toList.drop 1).dropWhile M5.nameB) [] <;> rfl)
  generalize hP : M5.beginR s.data.toList = P at *
  replace hP:=Lib.hid hP
  replace hN:=Lib.hid hN
  replace hx:=Lib.hid hx
  have hmm:=@run_makeMap Tryz.prog
  obtain ⟨wo,rfl⟩ : ∃ wo : World,wo = w:=⟨_,rfl⟩
  go_enter Tryz.func163,Tryz.ntmps163
  go_wp2_with fail
  refine (hN.out _).mono ?_
  rintro e1 w1 ⟨rfl,hb1⟩
  have bz1:=(Box.new wo 87 [.int .i64 0,.string ⟨#[]⟩,.slice none 0 0,.string ⟨#[]⟩]).below hb1 (by simp)
  have b1 : Below wo.heap.size wo w1:=bt ((Below.refl _ wo).alloc (Nat.le_refl _) _) hb1
  have hs1 : wo.heap.size < w1.heap.size:=bz1.lt
  go_wp2_with fail
  go_loopw [5] (fun u5 wr => ∃ (R : List UInt8) (acc : List Att) (va : Value) (n : Nat),acc.length + R.length ≤ s.size ∧ u5 = .string (M5.bs R) ∧ n ≤ acc.length ∧ Box wr wo.heap.size 87 [.int .i64 0,.string ⟨#[]⟩,.slice none 0 0,.string ⟨#[]⟩] ∧ Box wr w1.heap.size 87 [.int .i64 1,.string nm,va,.string ⟨#[]⟩] ∧ wr.ownsMap Tryz.prog 9 (unitElem (H:=Unit)) (w1.heap.size + 1) n (stoodD acc) ∧ wr.ownsRow (w1.heap.size + 2) 43 2 va acc.length (cellsA acc) ∧ Below wo.heap.size wo wr ∧ w1.heap.size + 2 ≤ wr.heap.size ∧ Hid (M5.attsR R0 [] = M5.attsR R acc)) (fun u5 _ => strLen u5)
  case atStart =>
    refine ⟨R0,[],.slice none 0 0,0,by simpa using hR0l,rfl,Nat.le_refl _,(bz1.alloc _).alloc _,(Box.new w1 87 [.int .i64 1,.string nm,.slice none 0 0,.string ⟨#[]⟩]).alloc _,?_,World.ownsRow_nil _ _ _ _,(b1.alloc (by omega) _).alloc (by simp; omega) _,by simp,Lib.hid rfl⟩
    have:=World.ownsMap_made (H:=Unit) (w1.alloc (.cells #[.int .i64 1,.string nm,.slice none 0 0,.string ⟨#[]⟩] 87)) Tryz.prog 9 unitElem
    simpa [stood_nil] using this
  case round =>
    obtain ⟨R,acc,va,n,hal,rfl,hn,bz,bx,hmap,hown,hb,hws,hv⟩:=hrel
    have hRs : (M5.bs R).size ≤ 1073741824:=by rw [bs_size]; omega
    have hT:=take2 asksBetween (M5.bs R) hRs
    rw [M5.bs_data] at hT
    obtain ⟨R1,hR1⟩ : ∃ x,Hid (x = R.dropWhile betwB):=⟨_,rfl⟩
    obtain ⟨x1,hx1⟩ : ∃ x,Hid (x = M5.bs (R.takeWhile betwB)):=⟨_,rfl⟩
    rw [← hR1.out,← hx1.out] at hT
    have hR1l : R1.length ≤ R.length:=by rw [hR1.out]; exact (List.dropWhile_suffix _).length_le
    have hv1 : Hid (M5.attsR R0 [] = M5.attsR R1 acc):=by show _ = _; rw [hv.out,M5.atts_over,hR1.out]; rfl
    have hhead:=M5.over_head R
    rw [← betw_over,← hR1.out,betw_over] at hhead
    replace hT:=Lib.hid hT
    clear hv hx1
    have hRz : (M5.bs R).size = R.length:=bs_size R
    obtain ⟨rt,hrt⟩ : ∃ x,Hid (x = M5.bs R):=⟨_,rfl⟩
    obtain ⟨rt1,hrt1⟩ : ∃ x,Hid (x = M5.bs R1):=⟨_,rfl⟩
    have hrt1z : rt1.size = R1.length:=by rw [hrt1.out,bs_size]
    have hrt1d : Hid (rt1.data.toList = R1):=by show _ = _; rw [hrt1.out,M5.bs_data]
    rw [← hrt.out,← hrt1.out] at hT
    rw [← hrt.out]
    go_wp2_with fail
    refine (hT.out _).mono ?_
    rintro e1 w2 ⟨rfl,hb2⟩
    have bz2:=bz.below hb2 bz.lt
    have bx2:=bx.below hb2 bx.lt
    have hmap2:=ownsMap_below hmap hb2
    have hown2:=own_below hown hb2
    have hbW2:=Lib.hid (bt hb hb2)
    have hws2 : w1.heap.size + 2 ≤ w2.heap.size:=Nat.le_trans hws hb2.size
    have z0:=bz2.cell (i:=0) rfl
    have z1:=bz2.cell (i:=1) rfl
    have z2:=bz2.cell (i:=2) rfl
    have z3:=bz2.cell (i:=3) rfl
    have fz:=bz2.free
    clear bz bx hmap hown hb hb2 hws
    cases hc : R1 with
    | nil =>
      have hin : Hid (P = (M5.zero,[])):=by show _ = _; rw [hbe.out,hv1.out,hc,M5.attsR_nil]
      have hem : rt1.toList.isEmpty = true:=isEmpty_yes rt1 (by rw [hrt1z,hc]; rfl)
      replace hc:=Lib.hid hc
      go_wp2_with fail
      have bf:=bz2.four (.int .i64 0) (.string ⟨#[]⟩) (.slice none 0 0) (.string ⟨#[]⟩)
      have q0:=bf.cell (i:=0) rfl
      have q1:=bf.cell (i:=1) rfl
      have q2:=bf.cell (i:=2) rfl
      have q3:=bf.cell (i:=3) rfl
      exact bodyPost_ret (v:=.tuple #[.agg #[.int .i64 0,.string ⟨#[]⟩,.slice none 0 0,.string ⟨#[]⟩],.int .i64 (s.size : Int)]) (by simp [results,Tryz.results163,go_sem,q0,q1,q2,q3]) rfl (by rw [hin.out]; exact tokPost_nil (by show _ = ((s.size - 0 : Nat) : Int); omega) (four_below hbW2.out _ _ _ _ (Nat.le_refl _)))
    | cons c r =>
      have hno : M5.overB c = false:=hhead c r hc
      have h1p : 0 < rt1.size:=by rw [hrt1z,hc]; simp
      have hem : rt1.toList.isEmpty = false:=isEmpty_no rt1 h1p
      have hc0 : rt1[0] = c:=by
        have:=drop_cons rt1 0 h1p
        rw [List.drop_zero,hrt1d.out,hc] at this
        exact (List.cons.inj this).1.symm
      have hrl : R1.length = r.length + 1:=by rw [hc]; rfl
      by_cases h62 : c = 62
      · have e62 : ((c.toNat : Int) == 62) = true:=by rw [h62]; rfl
        have hin : Hid (P = (⟨1,nm,acc,⟨#[]⟩⟩,r)):=by
          show _ = _
          rw [hbe.out,hv1.out,hc,M5.attsR_cons,if_pos h62]
        obtain ⟨a,cap,rfl⟩:=own_slice5 hown2
        have t0:=bx2.cell (i:=0) rfl
        have t1:=bx2.cell (i:=1) rfl
        have t2:=bx2.cell (i:=2) rfl
        have t3:=bx2.cell (i:=3) rfl
        replace hc:=Lib.hid hc
        go_wp2_with fail
        have bf:=bz2.four (.int .i64 1) (.string nm) (.slice a acc.length cap) (.string ⟨#[]⟩)
        have q0:=bf.cell (i:=0) rfl
        have q1:=bf.cell (i:=1) rfl
        have q2:=bf.cell (i:=2) rfl
        have q3:=bf.cell (i:=3) rfl
        have ho4:=own_four (g:=wo.heap.size) hown2 (by omega) (.int .i64 1) (.string nm) (.slice a acc.length cap) (.string ⟨#[]⟩)
        exact bodyPost_ret (v:=.tuple #[.agg #[.int .i64 1,.string nm,.slice a acc.length cap,.string ⟨#[]⟩],.int .i64 ((s.size : Int) - ((r.length : Int) + 1) + 1)]) (by simp [results,Tryz.results163,go_sem,q0,q1,q2,q3]) rfl (by rw [hin.out]; exact tokPost_own (t:=⟨1,nm,acc,⟨#[]⟩⟩) (by show _ = ((s.size - r.length : Nat) : Int); omega) ho4 (by omega) (four_below hbW2.out _ _ _ _ (Nat.le_refl _)))
      · have e62 : ((c.toNat : Int) == 62) = false:=by rw [show ((c.toNat : Int) == 62) = (c == 62) from (eqI _ 62).symm]; exact beq_eq_false_iff_ne.2 h62
        obtain ⟨at0,R2,hp⟩ : ∃ a r,Hid (M5.attC R1 = (a,r)):=⟨(M5.attC R1).1,(M5.attC R1).2,rfl⟩
        have hR2 : R2.length < R1.length:=by
          have:=M5.attC_lt c r hno h62
          rw [← hc,hp.out] at this
          exact this
        have hv2 : Hid (M5.attsR R0 [] = M5.attsR R2 (M5.addT acc at0)):=by
          show _ = _
          rw [hv1.out,hc,M5.atts_one c r acc hno h62,← hc,hp.out]
        have hA:=attr2 rt1 (by omega)
        rw [hrt1d.out,hp.out] at hA
        have hnl : at0.name.size ≤ 1073741824:=by
          have h:=M5.attC_name_le R1
          rw [hp.out] at h
          have h : at0.name.size ≤ R1.length:=h
          omega
        replace hA:=Lib.hid hA
        replace hc:=Lib.hid hc
        replace hp:=Lib.hid hp
        clear hhead z0 z1 z2 z3 fz
        have bz2':=bz2.alloc (.cells #[.string ⟨#[]⟩,.string ⟨#[]⟩] 43)
        have bx2':=bx2.alloc (.cells #[.string ⟨#[]⟩,.string ⟨#[]⟩] 43)
        have ba2':=Box.new w2 43 [.string ⟨#[]⟩,.string ⟨#[]⟩]
        have hmap2':=hmap2.alloc (.cells #[.string ⟨#[]⟩,.string ⟨#[]⟩] 43)
        have hown2':=hown2.alloc (.cells #[.string ⟨#[]⟩,.string ⟨#[]⟩] 43)
        have hbW2':=hbW2.out.alloc hbW2.out.size (.cells #[.string ⟨#[]⟩,.string ⟨#[]⟩] 43)
        replace hbW2':=Lib.hid hbW2'
        go_wp2_with fail
        refine (hA.out _).mono ?_
        rintro e1 w3 ⟨rfl,hb3⟩
        have bz3:=bz2'.below hb3 bz2'.lt
        have bx3:=bx2'.below hb3 bx2'.lt
        have ba3:=ba2'.below hb3 ba2'.lt
        have hmap3:=ownsMap_below hmap2' hb3
        have hown3:=own_below hown2' hb3
        have hbW3:=Lib.hid (bt hbW2'.out hb3)
        have hz2:=bz2.lt
        have hx2:=bx2.lt
        have hs3 : w2.heap.size + 1 ≤ w3.heap.size:=by have:=hb3.size; simpa using this
        have y0:=ba3.cell (i:=0) rfl
        have y1:=ba3.cell (i:=1) rfl
        have fy:=ba3.free
        have ba4:=Lib.hid (ba3.two (.string at0.name) (.string at0.value))
        have bz4:=Lib.hid ((bz3.far (p:=⟨w2.heap.size,0,none⟩) (by show wo.heap.size ≠ w2.heap.size; omega) (.string at0.name)).far (p:=⟨w2.heap.size,1,none⟩) (by show wo.heap.size ≠ w2.heap.size; omega) (.string at0.value))
        have bx4:=Lib.hid ((bx3.far (p:=⟨w2.heap.size,0,none⟩) (by show w1.heap.size ≠ w2.heap.size; omega) (.string at0.name)).far (p:=⟨w2.heap.size,1,none⟩) (by show w1.heap.size ≠ w2.heap.size; omega) (.string at0.value))
        have hmap4:=Lib.hid ((hmap3.setCell (a:=⟨w2.heap.size,0,none⟩) (by show w1.heap.size + 1 ≠ w2.heap.size; omega) (.string at0.name)).setCell (a:=⟨w2.heap.size,1,none⟩) (by show w1.heap.size + 1 ≠ w2.heap.size; omega) (.string at0.value))
        have hvan : ∀ b,va.ownBlock = some b → b ≠ w2.heap.size:=fun b h => by have:=(hown2.lt b h).2; omega
        clear hb3 bz2' bx2' ba2' hmap2' hown2'
        have hown4:=Lib.hid (own_off (g:=w2.heap.size) (j:=1) (own_off (g:=w2.heap.size) (j:=0) hown3 hvan (.string at0.name)) hvan (.string at0.value))
        have hbW4:=Lib.hid (two_below hbW3.out (g:=w2.heap.size) (.string at0.name) (.string at0.value) (by omega))
        go_upto_region 11 with fail
        have hz4 : ((w3.setCell ⟨w2.heap.size,0,none⟩ (.string at0.name)).setCell ⟨w2.heap.size,1,none⟩ (.string at0.value)).heap.size = w3.heap.size:=by simp
        clear bz3 bx3 ba3 hmap3 hown3 hbW3 y0 y1 fy
        generalize (w3.setCell ⟨w2.heap.size,0,none⟩ (.string at0.name)).setCell ⟨w2.heap.size,1,none⟩ (.string at0.value) = w4 at *
        have y0:=ba4.out.cell (i:=0) rfl
        have y1:=ba4.out.cell (i:=1) rfl
        have hkey : keyOf Tryz.prog 9 (.string at0.name) = some (.string at0.name.data.toList):=WideMaps.keyOf_string_mk Tryz.underlying9 (s:=at0.name) (by unfold maxLen; omega)
        have hhas:=has_stood acc at0.name
        go_upto_region 12 with (at_lookup; refine wpList_lookup_own_unit _ rfl _ _ 115 rfl 9 116 keyS Tryz.underlying115 (zeroUnit _) (w1.heap.size + 1) n _ rfl hmap4.out _ _ rfl hkey ?_)
        have hmeas : strLen (.string (M5.bs R2)) < strLen (.string rt):=by
          show (M5.bs R2).size < rt.size
          rw [hrt.out,bs_size,bs_size]
          omega
        have hz4' : w1.heap.size + 2 ≤ w4.heap.size:=by omega
        cases hhad : (acc.any fun b => M3.eqB b.name at0.name)
        · have hadd : M5.addT acc at0 = acc ++ [at0]:=by rw [M5.addT,hhad]; rfl
          rw [hadd] at hv2
          have hcA : cellsA acc ++ [.string at0.name,.string at0.value] = cellsA (acc ++ [at0]):=by rw [cellsA_append]; rfl
          replace hhas:=Lib.hid hhas
          replace hhad:=Lib.hid hhad
          replace hcA:=Lib.hid hcA
          replace hadd:=Lib.hid hadd
          clear y0 y1
          have y0:=(ba4.out.alloc (.cells #[] 116)).cell (i:=0) rfl
          go_upto_region 14 with (at_mapUpdate; refine wpList_mapUpdate_own _ rfl _ _ _ 115 rfl 9 116 keyS Tryz.underlying115 (unitElem (H:=Unit)) (w1.heap.size + 1) n _ rfl (hmap4.out.alloc _) (by unfold maxLen; omega) _ _ _ rfl rfl hkey _ [] unitElem_mk ?_; intro w5 hmap5 hgrow5)
          have ba5:=(ba4.out.alloc (.cells #[] 116)).keep (hgrow5.block _ (ba4.out.alloc _).lt (by intro h; have:=Option.some.inj h; omega))
          have bz5:=(bz4.out.alloc (.cells #[] 116)).keep (hgrow5.block _ (bz4.out.alloc _).lt (by intro h; have:=Option.some.inj h; omega))
          have bx5:=(bx4.out.alloc (.cells #[] 116)).keep (hgrow5.block _ (bx4.out.alloc _).lt (by intro h; have:=Option.some.inj h; omega))
          have hown5:=Lib.hid ((hown4.out.alloc (.cells #[] 116)).kept hgrow5 (Or.inr (fun h => by have:=(hown4.out.lt _ h).1; omega)))
          have hbW5:=Lib.hid ((hbW4.out.alloc hbW4.out.size (.cells #[] 116)).grown hgrow5 (by have:=hbW4.out.size; simp; omega) (fun k hk => by cases hk; omega))
          have hs5 : w4.heap.size + 1 ≤ w5.heap.size:=by have:=hgrow5.size; simpa using this
          have y0:=ba5.cell (i:=0) rfl
          have y1:=ba5.cell (i:=1) rfl
          obtain ⟨sa,cap,rfl⟩:=own_slice5 hown4.out
          have x2:=bx5.cell (i:=2) rfl
          replace hmap5:=Lib.hid hmap5
          replace hgrow5:=Lib.hid hgrow5
          go_wp2_with (at_builtin; refine wpList_appOne w5 [.string at0.name,.string at0.value] rfl _ _ 39 43 rfl (w1.heap.size + 2) 2 Tryz.underlying39 infoA5 rfl (by omega) _ acc.length (cellsA acc) rfl hown5.out (w5.heap.size) rfl (by rfl) rfl (by simp [Value.oneCell']) (by omega) (by omega) (by omega) ?_; intro gg cap' w6 hown6 hgrow6 hat6; have bx6:=bx5.keep (hgrow6.block _ bx5.lt (fun e => by have:=(hown5.out.lt _ e.symm).1; omega)); have bz6:=bz5.keep (hgrow6.block _ bz5.lt (fun e => by have:=(hown5.out.lt _ e.symm).1; omega)); have c6:=bx6.cell (i:=2) rfl; have f6:=bx6.free 2)
          have hb6:=hbW5.out.grown hgrow6 hbW5.out.size (fun g hg => by have:=(hown5.out.lt g hg).1; omega)
          have hb7 : Below wo.heap.size wo (w6.setCell ⟨w1.heap.size,2,none⟩ (.slice (some ⟨gg,0,none⟩) (acc.length + 1) cap')):=hb6.setCell (p:=⟨w1.heap.size,2,none⟩) (by show wo.heap.size ≤ w1.heap.size; omega) _
          have bz7:=bz6.far (p:=⟨w1.heap.size,2,none⟩) (by show wo.heap.size ≠ w1.heap.size; omega) (.slice (some ⟨gg,0,none⟩) (acc.length + 1) cap')
          have bx7:=bx6.set 2 (.slice (some ⟨gg,0,none⟩) (acc.length + 1) cap')
          have hown7:=own_set (g:=w1.heap.size) (j:=2) hown6 (by omega) (.slice (some ⟨gg,0,none⟩) (acc.length + 1) cap')
          have hmap7:=(hmap5.out.kept hgrow6 (fun h => by have:=(hown5.out.lt _ h.symm).1; omega)).setCell (a:=⟨w1.heap.size,2,none⟩) (by show w1.heap.size + 1 ≠ w1.heap.size; omega) (.slice (some ⟨gg,0,none⟩) (acc.length + 1) cap')
          have hz6:=hgrow6.size
          rw [hcA.out] at hown7
          rw [← stood_snoc] at hmap7
          go_roundw
          case rel => exact ⟨R2,acc ++ [at0],.slice (some ⟨gg,0,none⟩) (acc.length + 1) cap',n + 1,by rw [List.length_append]; show acc.length + 1 + R2.length ≤ s.size; omega,rfl,by rw [List.length_append]; show n + 1 ≤ acc.length + 1; omega,bz7,bx7,hmap7,by rw [List.length_append]; exact hown7,hb7,by simp; omega,hv2⟩
          case measure => exact hmeas
        · have hadd : M5.addT acc at0 = acc:=by rw [M5.addT,hhad]; rfl
          rw [hadd] at hv2
          replace hhas:=Lib.hid hhas
          replace hhad:=Lib.hid hhad
          go_wp2_with fail
          go_roundw
          case rel => exact ⟨R2,acc,va,n,by omega,rfl,hn,bz4.out.alloc _,bx4.out.alloc _,hmap4.out.alloc _,hown4.out.alloc _,hbW4.out.alloc hbW4.out.size _,by simp; omega,hv2⟩
          case measure => exact hmeas
end Go.Proofs.YteefodibpjgicaaGreat
