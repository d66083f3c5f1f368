/- Texts joined: Math3c, MapKit, Dom4, Dom5. -/
import Derived.Maps.OwnSet
import Derived.Lib.Hide
import Derived.Test.YteefodibpjgicaaGreatRows
import Derived.Test.YteefodibpjgicaaGreatA2
import Derived.Test.YteefodibpjgicaaGreatA13
namespace Go.Proofs.YteefodibpjgicaaGreat
namespace M3
def plainF (n : ByteArray) (ats : List Att) (ks : List Nd) : Bool:=nilB n && ats.isEmpty && ks.isEmpty
def kindlyF (k : Int) (n : ByteArray) (ats : List Att) (t : ByteArray) (ks : List Nd) : Bool:=if k = 1 then nilB t else if k = 2 ∨ k = 3 then plainF n ats ks else false
def elemF (n : ByteArray) (ats : List Att) : Int:=if namedB n.data.toList then (if namesE [] ats = 0 then valuesE ats else namesE [] ats) else 4
def oneF (k : Int) (n : ByteArray) (ats : List Att) (t : ByteArray) (ks : List Nd) (p : Bool) : Int :=
  if kindlyF k n ats t ks then (if k = 1 then elemF n ats else if M1.isB t.data.toList && !(decide (k = 2) && (nilB t || p)) then 0 else 2) else 7
theorem oneE_mk (k : Int) (n : ByteArray) (ats : List Att) (t : ByteArray) (ks : List Nd) (p : Bool) : oneE (.mk k n ats t ks) p = oneF k n ats t ks p:=by
  unfold oneE oneF kindlyF
  show (if k = 1 then elemE _ else if k = 2 then (if plainF n ats ks then (if M1.isB t.data.toList && !(nilB t || p) then 0 else 2) else 7) else if k = 3 then (if plainF n ats ks then (if M1.isB t.data.toList then 0 else 2) else 7) else 7) = _
  by_cases h1 : k = 1
  · rw [if_pos h1,if_pos h1,if_pos h1]
    rfl
  by_cases h2 : k = 2
  · rw [if_neg h1,if_pos h2,if_neg h1,if_pos (Or.inl h2),if_neg h1,decide_eq_true h2,Bool.true_and]
  by_cases h3 : k = 3
  · rw [if_neg h1,if_neg h2,if_pos h3,if_neg h1,if_pos (Or.inr h3),if_neg h1,decide_eq_false h2,Bool.false_and,Bool.not_false,Bool.and_true]
  · have hno : ¬ (k = 2 ∨ k = 3):=fun h => h.elim h2 h3
    rw [if_neg h1,if_neg h2,if_neg h3,if_neg h1,if_neg hno]
    rfl
end M3
end Go.Proofs.YteefodibpjgicaaGreat

namespace Go.Proofs.YteefodibpjgicaaGreat
open Go.RowKit Go.Maps Go.WideShapes
variable {H : Type}
def rowD (l : List (Lit × DataW H)) (D : DataW H) : DataW H:=l.foldl (fun D p => D.put p.1 p.2) D
theorem rowD_has : ∀ (l : List (Lit × DataW H)) (D : DataW H) (k : Lit),IsMap D → (∀ p ∈ l,WideAt.IsKeyLit p.1) → Maps.has (rowD l D) k = (l.any (fun p => p.1.sameKey k) || Maps.has D k)
  | [],_,_,_,_ => by simp [rowD]
  | p :: l,D,k,h,hk => by
    have ih:=rowD_has l (D.put p.1 p.2) k (h.put _ _) (fun q hq => hk q (by simp [hq]))
    show Maps.has (rowD l (D.put p.1 p.2)) k = _
    rw [ih,List.any_cons]
    by_cases e : p.1 = k
    · subst e
      rw [has_put_same h (hk p (by simp)),WideAt.sameKey_self (hk p (by simp))]
      simp
    · rw [has_put_other (fun h => e h.symm),sameKey_ne e]
      simp
theorem rowD_other : ∀ (l : List (Lit × DataW H)) (D z : DataW H) (k : Lit),(∀ p ∈ l,p.1 ≠ k) → (rowD l D).atKey k z = D.atKey k z
  | [],_,_,_,_ => rfl
  | p :: l,D,z,k,h => by
    show (rowD l (D.put p.1 p.2)).atKey k z = _
    rw [rowD_other l _ z k (fun q hq => h q (by simp [hq])),atKey_put_other (fun e => h p (by simp) e.symm)]
theorem rowD_at : ∀ (l : List (Lit × DataW H)) (D z : DataW H) (p : Lit × DataW H),IsMap D → (∀ p ∈ l,WideAt.IsKeyLit p.1) → l.Pairwise (fun p q => p.1 ≠ q.1) → p ∈ l → (rowD l D).atKey p.1 z = p.2
  | [],_,_,_,_,_,_,hp => by simp at hp
  | q :: l,D,z,p,h,hk,hd,hp => by
    obtain ⟨h1,h2⟩:=List.pairwise_cons.1 hd
    show (rowD l (D.put q.1 q.2)).atKey p.1 z = _
    rcases List.mem_cons.1 hp with rfl | hp
    · rw [rowD_other l _ z _ (fun q hq e => h1 q hq e.symm),atKey_put_same h (hk _ (by simp))]
    · exact rowD_at l _ z p (h.put _ _) (fun q hq => hk q (by simp [hq])) h2 hp
theorem ownsMap_below {P : Program} {k : TypeId} {R : Value → Option (DataW H × List MemPlace)} {w w' : World} {b n : Nat} {D : DataW H} (h : w.ownsMap P k R b n D) (hb : Below w.heap.size w w') : w'.ownsMap P k R b n D :=
  h.kept (row:=none) ⟨hb.os,hb.tape,hb.output,hb.size,fun k hk _ => hb.block k hk⟩ (by simp)
theorem look_ok_int {P : Program} {w : World} {b n : Nat} {D : DataW H} {t k e : TypeId} {q : IntKind} (h : w.ownsMap P k (plainElem P e) b n D) (K : Keyed P k) (ht : P.underlying t = some (.map k e)) (he : P.underlying e = some (.int q))
    (hz : (zeroValue e).run P w = .ok (.int q 0) w) {key : Value} {kl : Lit} (hkey : keyOf P k key = some kl) {c : Int} (hc : D.atKey kl (.lit (.int q 0)) = .lit (.int q c)) :
    (Instr.lookup t (.map (some b)) key true).run P w = .ok (.tuple #[.int q c,.bool (Maps.has D kl)]) w:=by
  have hw0 : (Lit.int q 0).wf = true:=by cases q <;> decide
  obtain ⟨v,ps,hrun,hv⟩:=h.look_ok K ht hz (plainElem_int he hw0) hkey
  obtain ⟨c',rfl,h2,_⟩:=plainElem_int_inv he hv
  simp only [Prod.mk.injEq] at h2
  rw [h2.1] at hc
  cases hc
  exact hrun
end Go.Proofs.YteefodibpjgicaaGreat

namespace Go.Proofs.YteefodibpjgicaaGreat
open Go.RowKit Go.Maps Go.WideShapes
theorem Row.below {S : Nat → Prop} {w w' : World} {B k n : Nat} {v : Value} {xs : List Value} (h : Row S w k v n xs) (hS : ∀ b,S b → b < B) (hb : Below B w w') : Row S w' k v n xs:=h.keep fun b h => hb.block b (hS b h)
theorem RepN.below {S : Nat → Prop} {w w' : World} {B : Nat} {v : Value} {l : List Nd} (h : RepN S w v l) (hS : ∀ b,S b → b < B) (hb : Below B w w') : RepN S w' v l:=h.keep fun b h => hb.block b (hS b h)
theorem RepV.below {S : Nat → Prop} {w w' : World} {B : Nat} {x : Nd} {va vk : Value} (h : RepV S w x va vk) (hS : ∀ b,S b → b < B) (hb : Below B w w') : RepV S w' x va vk:=h.keep fun b h => hb.block b (hS b h)
theorem run_makeMap_hint {P : Program} (t k e : TypeId) (kd : IntKind) (n : Int) (ht : P.underlying t = some (.map k e)) (w : World) :
    (Instr.makeMap t (some (.int kd n))).run P w = .ok (.map (some w.heap.size)) (w.alloc (.map #[] 0)):=by
  simp [Instr.makeMap,run_underlying ht]; rfl
def valAns (o : Option ByteArray) : Value:=.tuple #[.string (o.getD ⟨#[]⟩),.bool o.isSome]
theorem zeroU (w : World) : (zeroValue 116).run Tryz.prog w = .ok (.agg #[]) w:=by kernel_rfl
theorem lawS : Keyed Tryz.prog 9:=string_keyed Tryz.underlying9
def keysD (l : List ByteArray) : DataW Unit:=Maps.setOf (.agg []) (l.map fun s => Lit.string s.data.toList)
theorem keysD_has (l : List ByteArray) (s : ByteArray) : Maps.has (keysD l) (.string s.data.toList) = l.any (M3.eqB s):=by
  unfold keysD
  rw [Maps.has_setOf _ _ _ (by intro x hx; obtain ⟨y,_,rfl⟩:=List.mem_map.1 hx; trivial),List.any_map]
  congr 1
  funext y
  simp only [Function.comp]
  rw [Bool.eq_iff_iff,M3.eqB_iff]
  constructor
  · intro h
    have:=WideAt.sameKey_eq h
    simp only [Lit.string.injEq] at this
    cases s; cases y
    congr 1
    exact (Array.ext' this).symm
  · rintro rfl; exact WideAt.sameKey_self (by trivial)
theorem keysD_snoc (l : List ByteArray) (s : ByteArray) : (keysD l).put (.string s.data.toList) (.agg []) = keysD (l ++ [s]):=by
  unfold keysD
  rw [List.map_append]
  exact (Maps.setOf_snoc _ _ _).symm
abbrev Seen (w : World) (b n : Nat) (l : List ByteArray) : Prop:=w.ownsMap Tryz.prog 9 (unitElem (H:=Unit)) b n (keysD l)
set_option maxHeartbeats 4000000 in
set_option maxRecDepth 100000 in
theorem domNames (S : Nat → Prop) (va : Value) (ats : List Att) (w : World) (hS : ∀ b,S b → b < w.heap.size) (hat : Row S w 2 va ats.length (cellsA ats)) (hsz : ∀ a ∈ ats,a.name.size ≤ 268435456) :
    Calls Tryz.prog 94 #[va] w fun e w' => e = .returned (.int .i64 (M3.namesE [] ats)) ∧ Below w.heap.size w w':=by
  obtain ⟨a,cap,rfl⟩:=hat.slice
  obtain ⟨_,hlc,hcm⟩:=hat.len
  have hmm:=fun W => run_makeMap_hint (P:=Tryz.prog) 115 9 116 .i64 (ats.length : Int) Tryz.underlying115 W
  have ho:=World.ownsMap_made w Tryz.prog 9 (unitElem (H:=Unit))
  go_enter Tryz.func94,Tryz.ntmps94
  go_wp2
  go_loopw [13] (fun u13 wr => ∃ i : Nat,i ≤ ats.length ∧ u13 = .int .i64 (i : Int) ∧ Below w.heap.size w wr ∧ Seen wr w.heap.size i ((ats.take i).map Att.name) ∧ Hid (M3.namesE [] ats = M3.namesE ((ats.take i).map Att.name) (ats.drop i))) (fun u13 _ => ats.length - (intOf u13).toNat)
  case atStart => exact ⟨0,by omega,rfl,(Below.refl _ _).alloc (Nat.le_refl _) _,ho,rfl⟩
  case round =>
    obtain ⟨i,hi,rfl,hb,hown,hv⟩:=hrel
    have hz:=hb.size
    clear hmm ho
    by_cases hlt : i < ats.length
    · obtain ⟨b,off,rfl,hSb,c0,c1⟩:=(hat.below hS hb).atA i hlt
      have hbl:=hS b hSb
      have hsn:=hsz _ (List.getElem_mem hlt)
      have hdr : ats.drop i = ats[i] :: ats.drop (i + 1):=List.drop_eq_getElem_cons hlt
      have htk : (ats.take (i + 1)).map Att.name = (ats.take i).map Att.name ++ [ats[i].name]:=by
        rw [List.take_succ_eq_append_getElem hlt,List.map_append]; rfl
      rw [hdr,M3.namesE,← htk] at hv
      have hks:=keysD_snoc ((ats.take i).map Att.name) ats[i].name
      rw [← htk] at hks
      have hkh:=keysD_has ((ats.take i).map Att.name) ats[i].name
      generalize hs2 : (ats.take (i + 1)).map Att.name = seen2 at *
      replace hs2:=Lib.hid hs2
      generalize (ats.take i).map Att.name = seen at *
      generalize ats[i].value = vl at *
      generalize ats[i].name = nm at *
      clear hdr htk
      replace hks:=Lib.hid hks
      have hA:=Lib.hid (fun W => domAttributed nm W hsn)
      generalize M3.attributedB nm.data.toList = p at *
      generalize seen.any (M3.eqB nm) = q at *
      replace hkh:=Lib.hid hkh
      have hsl : w.heap.size < wr.heap.size:=by
        obtain ⟨es,clock,h1,_⟩:=hown
        exact (Array.getElem?_eq_some_iff.1 h1).1
      have hkey:=WideMaps.keyOf_string_mk Tryz.underlying9 (s:=nm) (by unfold maxLen; omega)
      replace hkey:=Lib.hid hkey
      cases p
      · have hv2 : Hid (M3.namesE [] ats = 4):=hv
        clear hv
        go_wp2_with fail
        refine (hA.out _).mono ?_
        rintro e w2 ⟨rfl,hb2⟩
        go_wp2
        go_ret
        exact ⟨by rw [hv2.out]; rfl,(hb.alloc hz _).trans (hb2.mono (by simp; omega))⟩
      · go_wp2_with fail
        refine (hA.out _).mono ?_
        rintro e w2 ⟨rfl,hb2⟩
        have hown2 : Seen w2 w.heap.size i seen:=ownsMap_below (hown.alloc _) hb2
        have hsl2 : w.heap.size < w2.heap.size:=by have:=hb2.size; simp at this; omega
        obtain ⟨v,ps,hrun,hv3⟩:=hown2.look_ok lawS Tryz.underlying115 (zeroU w2) unitElem_mk hkey.out
        obtain ⟨rfl,_⟩:=unitElem_inv hv3
        clear hv3
        rw [hkh.out] at hrun
        have hbox : Box w2 wr.heap.size 43 [.string nm,.string vl]:=(Box.new wr _ _).below hb2 (by simp)
        have hc2:=hbox.cell (i:=0) rfl
        have hbw2 : Below w.heap.size w w2:=(hb.alloc hz _).trans (hb2.mono (by simp; omega))
        replace hbox:=Lib.hid hbox
        have hz2 : wr.heap.size < w2.heap.size:=by have:=hb2.size; simp at this; omega
        cases q
        · obtain ⟨w4,hrun2,hown4,ht4⟩:=(hown2.alloc (.cells #[] 116)).store lawS Tryz.underlying115 (by unfold maxLen; omega) hkey.out (unitElem_mk (H:=Unit))
          have hbw4 : Below w.heap.size w w4:=(hbw2.alloc hbw2.size (.cells #[] 116)).grown ht4.grown (by simp; omega) (fun k hk => by cases hk; exact Nat.le_refl _)
          have hown5 : Seen w4 w.heap.size (i + 1) seen2:=by show World.ownsMap _ _ _ _ _ _ (keysD seen2); rw [← hks.out]; exact hown4
          clear hown4 ht4
          go_wp2
          go_roundw
          case rel => exact ⟨i + 1,by omega,by go_num,hbw4,by rw [hs2.out]; exact hown5,by show _ = _; rw [hs2.out]; exact hv⟩
          case measure => simp [intOf]; omega
        · have hv2 : Hid (M3.namesE [] ats = 5):=hv
          clear hv
          go_wp2
          go_ret
          exact ⟨by rw [hv2.out]; rfl,hbw2.alloc hbw2.size _⟩
    · have hvd : Hid (M3.namesE [] ats = 0):=by show _ = _; rw [hv.out,List.drop_of_length_le (by omega)]; rfl
      go_wp2
      go_ret
      exact ⟨by rw [hvd.out]; rfl,hb⟩
def Fit1 (x : Nd) : Prop:=x.name.size ≤ 268435456 ∧ x.text.size ≤ 268435456 ∧ (∀ a ∈ x.attrs,a.name.size ≤ 268435456 ∧ a.value.size ≤ 268435456) ∧ 1 + x.attrs.length + M3.weight x.kids ≤ 1000000
set_option maxHeartbeats 2000000 in
set_option maxRecDepth 100000 in
theorem domKindly (S : Nat → Prop) (x : Nd) (va vk : Value) (w : World) (hx : RepV S w x va vk) :
    Calls Tryz.prog 75 #[x.val va vk] w fun e w' => e = .returned (.bool (M3.kindlyF x.kind x.name x.attrs x.text x.kids)) ∧ Below w.heap.size w w':=by
  obtain ⟨hat,hkd⟩:=hx
  obtain ⟨a,cap,rfl⟩:=hat.slice
  obtain ⟨a2,cap2,rfl⟩:=hkd.slice
  cases x with | mk k n ats t ks =>
  have hb0 : ∀ cs,Below w.heap.size w (w.alloc (.cells cs 41)):=fun cs => (Below.refl _ _).alloc (Nat.le_refl _) _
  simp only [Nd.val,Nd.kind,Nd.name,Nd.text,Nd.attrs,Nd.kids] at *
  unfold M3.kindlyF M3.plainF M3.nilB
  by_cases h1 : k = 1
  · subst h1
    rw [if_pos rfl]
    go_enter Tryz.func75,Tryz.ntmps75
    go_wp2
    go_ret
    exact ⟨by simp,hb0 _⟩
  have h1b : (k == 1) = false:=by simpa using h1
  rw [if_neg h1]
  by_cases h2 : k = 2 ∨ k = 3
  · rw [if_pos h2]
    clear h1
    have hq1 : ((ats.length : Int) == 0) = ats.isEmpty:=by cases ats <;> simp; omega
    have hq2 : ((ks.length : Int) == 0) = ks.isEmpty:=by cases ks <;> simp; omega
    generalize ats.isEmpty = e1 at *
    generalize ks.isEmpty = e2 at *
    rcases h2 with rfl | rfl
    · go_enter Tryz.func75,Tryz.ntmps75
      go_wp2
      all_goals (go_ret; exact ⟨by simp_all,hb0 _⟩)
    · go_enter Tryz.func75,Tryz.ntmps75
      go_wp2
      all_goals (go_ret; exact ⟨by simp_all,hb0 _⟩)
  · rw [if_neg h2]
    have h2b : (k == 2) = false:=by simp; omega
    have h3b : (k == 3) = false:=by simp; omega
    clear h1 h2
    go_enter Tryz.func75,Tryz.ntmps75
    go_wp2
    go_ret
    exact ⟨rfl,hb0 _⟩
end Go.Proofs.YteefodibpjgicaaGreat

namespace Go.Proofs.YteefodibpjgicaaGreat
open Go.RowKit Go.Maps Go.WideShapes
theorem Fit1.attr {x : Nd} (h : Fit1 x) : ∀ a ∈ x.attrs,a.name.size ≤ 268435456:=fun a ha => (h.2.2.1 a ha).1
set_option maxHeartbeats 4000000 in
set_option maxRecDepth 100000 in
theorem domElement (S : Nat → Prop) (x : Nd) (va vk : Value) (w : World) (hS : ∀ b,S b → b < w.heap.size) (hx : RepV S w x va vk) (hf : Fit1 x) :
    Calls Tryz.prog 76 #[x.val va vk] w fun e w' => e = .returned (.int .i64 (M3.elemF x.name x.attrs)) ∧ Below w.heap.size w w':=by
  obtain ⟨hat,hkd⟩:=hx
  have hN:=fun w hS hat => domNames S va x.attrs w hS hat hf.attr
  obtain ⟨a,cap,rfl⟩:=hat.slice
  obtain ⟨_,hlc,hcm⟩:=hat.len
  obtain ⟨a2,cap2,rfl⟩:=hkd.slice
  cases x with | mk k n ats t ks =>
  obtain ⟨hf1,hf2,hf3,_⟩:=hf
  simp only [Nd.val,Nd.kind,Nd.name,Nd.text,Nd.attrs,Nd.kids] at *
  have hb0:=(Below.refl w.heap.size w).alloc (Nat.le_refl _) (.cells #[.int .i64 k,.string n,.slice a ats.length cap,.string t,.slice a2 ks.length cap2] 41)
  have hbx0:=Box.new w 41 [.int .i64 k,.string n,.slice a ats.length cap,.string t,.slice a2 ks.length cap2]
  have hNa:=Lib.hid (fun W => domNamed n W (by omega))
  have hr : Hid (M3.elemF n ats = if M3.namedB n.data.toList then (if M3.namesE [] ats = 0 then M3.valuesE ats else M3.namesE [] ats) else 4):=rfl
  generalize M3.namedB n.data.toList = p at *
  cases p
  · replace hr : Hid (M3.elemF n ats = 4):=hr
    clear hN
    go_enter Tryz.func76,Tryz.ntmps76
    go_wp2_with fail
    refine (hNa.out _).mono ?_
    rintro e w1 ⟨rfl,hb1⟩
    go_wp2
    go_ret
    exact ⟨by rw [hr.out]; rfl,hb0.trans (hb1.mono (by simp))⟩
  replace hr : Hid (M3.elemF n ats = if M3.namesE [] ats = 0 then M3.valuesE ats else M3.namesE [] ats):=hr
  replace hN:=Lib.hid hN
  generalize M3.namesE [] ats = z at *
  go_enter Tryz.func76,Tryz.ntmps76
  go_wp2_with fail
  refine (hNa.out _).mono ?_
  rintro e w1 ⟨rfl,hb1⟩
  have hbx1:=hbx0.below hb1 (by simp)
  have hc1:=hbx1.cell (i:=2) rfl
  have hbw1 : Below w.heap.size w w1:=hb0.trans (hb1.mono (by simp))
  have hz1:=hbx1.lt
  have hat1:=hat.below hS hbw1
  clear hbx0
  replace hbx1:=Lib.hid hbx1
  go_wp2_with fail
  refine (hN.out w1 (fun b h => by have:=hS b h; omega) hat1).mono ?_
  rintro e w2 ⟨rfl,hb2⟩
  have hbx2:=hbx1.out.below hb2 hz1
  have hc2:=hbx2.cell (i:=2) rfl
  have hbw2 : Below w.heap.size w w2:=hbw1.trans (hb2.mono (by omega))
  have hz2:=hbx2.lt
  clear hc1
  by_cases hz : z = 0
  · rw [if_pos hz] at hr
    subst hz
    go_wp2
    go_loopw [19] (fun u19 wr => ∃ i : Nat,i ≤ ats.length ∧ u19 = .int .i64 (i : Int) ∧ Below w.heap.size w wr ∧ Hid (M3.valuesE ats = M3.valuesE (ats.drop i))) (fun u19 _ => ats.length - (intOf u19).toNat)
    case atStart => exact ⟨0,by omega,rfl,hbw2,rfl⟩
    case round =>
      obtain ⟨i,hi,rfl,hb,hv⟩:=hrel
      have hzz:=hb.size
      by_cases hlt : i < ats.length
      · obtain ⟨b,off,rfl,hSb,c0,c1⟩:=(hat.below hS hb).atA i hlt
        have hbl:=hS b hSb
        have hsn:=(hf3 _ (List.getElem_mem hlt)).2
        have hdr : ats.drop i = ats[i] :: ats.drop (i + 1):=List.drop_eq_getElem_cons hlt
        rw [hdr,M3.valuesE] at hv
        generalize ats[i].value = vl at *
        generalize ats[i].name = nm at *
        clear hdr
        have hI:=Lib.hid (fun W => utfIs vl W (by omega))
        generalize M1.isB vl.data.toList = q at *
        go_wp2_with fail
        refine (hI.out _).mono ?_
        rintro e w3 ⟨rfl,hb3⟩
        have hbw3 : Below w.heap.size w w3:=(hb.alloc hzz (.cells #[.string nm,.string vl] 43)).trans (hb3.mono (by simp; omega))
        clear hc2
        cases q
        · have hv2 : Hid (M3.valuesE ats = 2):=hv
          go_wp2
          go_ret
          exact ⟨by rw [hr.out,hv2.out]; rfl,hbw3⟩
        · have hv2 : Hid (M3.valuesE ats = M3.valuesE (ats.drop (i + 1))):=hv
          clear hv
          go_wp2
          go_roundw
          case rel => exact ⟨i + 1,by omega,by go_num,hbw3,hv2⟩
          case measure => simp [intOf]; omega
      · have hvd : Hid (M3.valuesE ats = 0):=by show _ = _; rw [hv.out,List.drop_of_length_le (by omega)]; rfl
        go_wp2
        go_ret
        exact ⟨by rw [hr.out,hvd.out]; rfl,hb⟩
  · rw [if_neg hz] at hr
    have hzb : (z == 0) = false:=by simpa using hz
    go_wp2
    go_ret
    exact ⟨by rw [hr.out]; rfl,hbw2⟩
set_option maxHeartbeats 4000000 in
set_option maxRecDepth 100000 in
theorem domFault (S : Nat → Prop) (x : Nd) (va vk : Value) (ah : Int) (w : World) (hS : ∀ b,S b → b < w.heap.size) (hx : RepV S w x va vk) (hf : Fit1 x) :
    Calls Tryz.prog 54 #[x.val va vk,.int .i64 ah] w fun e w' => e = .returned (.int .i64 (M3.oneE x (ah == 2))) ∧ Below w.heap.size w w':=by
  have hK:=Lib.hid (fun W (h : RepV S W x va vk) => domKindly S x va vk W h)
  have hE:=Lib.hid (fun W h1 h2 => domElement S x va vk W h1 h2 hf)
  obtain ⟨hf1,hf2,hf3,_⟩:=hf
  have hI:=Lib.hid (fun W => utfIs x.text W (by omega))
  have hr : Hid (M3.oneE x (ah == 2) = M3.oneF x.kind x.name x.attrs x.text x.kids (ah == 2)):=by
    cases x; exact M3.oneE_mk _ _ _ _ _ _
  unfold M3.oneF at hr
  have hbx0:=Box.new w 41 (x.cells va vk)
  have hb0:=(Below.refl w.heap.size w).alloc (Nat.le_refl _) (.cells (x.cells va vk).toArray 41)
  have hx0:=hx.below hS hb0
  have hkf : M3.kindlyF x.kind x.name x.attrs x.text x.kids = true → x.kind = 1 ∨ x.kind = 2 ∨ x.kind = 3:=by
    intro h
    unfold M3.kindlyF at h
    by_cases h1 : x.kind = 1
    · exact Or.inl h1
    · rw [if_neg h1] at h
      by_cases h2 : x.kind = 2 ∨ x.kind = 3
      · exact Or.inr h2
      · rw [if_neg h2] at h; cases h
  generalize M3.kindlyF x.kind x.name x.attrs x.text x.kids = p at *
  cases x with | mk k n ats t ks =>
  simp only [Nd.val,Nd.kind,Nd.name,Nd.text,Nd.attrs,Nd.cells] at *
  cases p
  · replace hr : Hid (M3.oneE (.mk k n ats t ks) (ah == 2) = 7):=hr
    clear hE hI hkf
    go_enter Tryz.func54,Tryz.ntmps54
    go_wp2_with fail
    refine (hK.out _ hx0).mono ?_
    rintro e w1 ⟨rfl,hb1⟩
    go_wp2
    go_ret
    exact ⟨by rw [hr.out]; rfl,hb0.trans (hb1.mono (by simp))⟩
  replace hkf:=hkf rfl
  replace hr : Hid (M3.oneE (.mk k n ats t ks) (ah == 2) = if k = 1 then M3.elemF n ats else if (M1.isB t.data.toList && !(decide (k = 2) && (M3.nilB t || (ah == 2)))) = true then 0 else 2):=hr
  rcases Or.symm hkf with hkf | hkf
  · rw [if_neg (by omega)] at hr
    clear hE
    generalize hq : M1.isB t.data.toList = q at *
    clear hq
    rcases hkf with rfl | rfl
    · replace hr : Hid (M3.oneE (.mk 2 n ats t ks) (ah == 2) = if (q && !(t.toList.isEmpty || (ah == 2))) = true then 0 else 2):=hr
      cases heb : t.toList.isEmpty
      · rw [heb] at hr
        cases hah : (ah == 2)
        · rw [hah] at hr
          go_enter Tryz.func54,Tryz.ntmps54
          go_wp2_with fail
          refine (hK.out _ hx0).mono ?_
          rintro e w1 ⟨rfl,hb1⟩
          have hbx1:=hbx0.below hb1 (by simp)
          have c0:=hbx1.cell (i:=0) rfl
          have c3:=hbx1.cell (i:=3) rfl
          have hbw1 : Below w.heap.size w w1:=hb0.trans (hb1.mono (by simp))
          clear hbx0
          replace hbx1:=Lib.hid hbx1
          go_wp2_with fail
          refine (hI.out _).mono ?_
          rintro e w2 ⟨rfl,hb2⟩
          cases q
          · have hr2 : Hid (M3.oneE (.mk 2 n ats t ks) false = 2):=by show _ = _; rw [hr.out]; rfl
            go_wp2
            go_ret
            exact ⟨by rw [hr2.out]; rfl,hbw1.trans (hb2.mono hbw1.size)⟩
          · have hr2 : Hid (M3.oneE (.mk 2 n ats t ks) false = 0):=by show _ = _; rw [hr.out]; rfl
            go_wp2
            go_ret
            exact ⟨by rw [hr2.out]; rfl,hbw1.trans (hb2.mono hbw1.size)⟩
        · rw [hah] at hr
          have hr2 : Hid (M3.oneE (.mk 2 n ats t ks) true = 2):=by show _ = _; rw [hr.out]; cases q <;> rfl
          go_enter Tryz.func54,Tryz.ntmps54
          go_wp2_with fail
          refine (hK.out _ hx0).mono ?_
          rintro e w1 ⟨rfl,hb1⟩
          have hbx1:=hbx0.below hb1 (by simp)
          have c0:=hbx1.cell (i:=0) rfl
          have c3:=hbx1.cell (i:=3) rfl
          have hbw1 : Below w.heap.size w w1:=hb0.trans (hb1.mono (by simp))
          clear hbx0
          replace hbx1:=Lib.hid hbx1
          go_wp2
          go_ret
          exact ⟨by rw [hr2.out]; rfl,hbw1⟩
      · rw [heb] at hr
        have hr2 : Hid (M3.oneE (.mk 2 n ats t ks) (ah == 2) = 2):=by show _ = _; rw [hr.out]; cases q <;> rfl
        go_enter Tryz.func54,Tryz.ntmps54
        go_wp2_with fail
        refine (hK.out _ hx0).mono ?_
        rintro e w1 ⟨rfl,hb1⟩
        have hbx1:=hbx0.below hb1 (by simp)
        have c0:=hbx1.cell (i:=0) rfl
        have c3:=hbx1.cell (i:=3) rfl
        have hbw1 : Below w.heap.size w w1:=hb0.trans (hb1.mono (by simp))
        clear hbx0
        replace hbx1:=Lib.hid hbx1
        go_wp2
        go_ret
        exact ⟨by rw [hr2.out]; rfl,hbw1⟩
    · replace hr : Hid (M3.oneE (.mk 3 n ats t ks) (ah == 2) = if (q && true) = true then 0 else 2):=hr
      go_enter Tryz.func54,Tryz.ntmps54
      go_wp2_with fail
      refine (hK.out _ hx0).mono ?_
      rintro e w1 ⟨rfl,hb1⟩
      have hbx1:=hbx0.below hb1 (by simp)
      have c0:=hbx1.cell (i:=0) rfl
      have c3:=hbx1.cell (i:=3) rfl
      have hbw1 : Below w.heap.size w w1:=hb0.trans (hb1.mono (by simp))
      clear hbx0
      replace hbx1:=Lib.hid hbx1
      go_wp2_with fail
      refine (hI.out _).mono ?_
      rintro e w2 ⟨rfl,hb2⟩
      cases q
      · have hr2 : Hid (M3.oneE (.mk 3 n ats t ks) (ah == 2) = 2):=by show _ = _; rw [hr.out]; rfl
        go_wp2
        go_ret
        exact ⟨by rw [hr2.out]; rfl,hbw1.trans (hb2.mono hbw1.size)⟩
      · have hr2 : Hid (M3.oneE (.mk 3 n ats t ks) (ah == 2) = 0):=by show _ = _; rw [hr.out]; rfl
        go_wp2
        go_ret
        exact ⟨by rw [hr2.out]; rfl,hbw1.trans (hb2.mono hbw1.size)⟩
  · subst hkf
    rw [if_pos rfl] at hr
    clear hI
    go_enter Tryz.func54,Tryz.ntmps54
    go_wp2_with fail
    refine (hK.out _ hx0).mono ?_
    rintro e w1 ⟨rfl,hb1⟩
    have hbx1:=hbx0.below hb1 (by simp)
    have c0:=hbx1.cell (i:=0) rfl
    have c1:=hbx1.cell (i:=1) rfl
    have c2:=hbx1.cell (i:=2) rfl
    have c3:=hbx1.cell (i:=3) rfl
    have c4:=hbx1.cell (i:=4) rfl
    have hbw1 : Below w.heap.size w w1:=hb0.trans (hb1.mono (by simp))
    have hx1:=hx.below hS hbw1
    have hz1:=hbx1.lt
    clear hbx0
    replace hbx1:=Lib.hid hbx1
    go_wp2_with fail
    refine (hE.out w1 (fun b h => by have:=hS b h; omega) hx1).mono ?_
    rintro e w2 ⟨rfl,hb2⟩
    go_wp2
    go_ret
    exact ⟨by rw [hr.out]; rfl,hbw1.trans (hb2.mono (by omega))⟩
end Go.Proofs.YteefodibpjgicaaGreat
