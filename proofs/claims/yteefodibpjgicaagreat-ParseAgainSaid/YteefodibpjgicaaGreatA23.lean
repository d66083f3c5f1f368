/- Texts joined: Ref03z, Law03g, Ref03x, Math3g, Ref03g, Law03v. -/
import Derived.StillTailTactics
import Derived.Test.YteefodibpjgicaaGreatA2
import Derived.Test.YteefodibpjgicaaGreatA5
import Derived.Test.YteefodibpjgicaaGreatA11
import Derived.Test.YteefodibpjgicaaGreatA17
import Derived.Test.YteefodibpjgicaaGreatA20
import Derived.Test.YteefodibpjgicaaGreatA22
namespace Go.Proofs.YteefodibpjgicaaGreat
open Go.RowKit
set_option maxHeartbeats 8000000 in
set_option maxRecDepth 100000 in
theorem ref03One (S : Nat → Prop) (x : Nd) (va vk : Value) (p : Bool) (w : World) (hS : ∀ b,S b → b < w.heap.size) (hx : RepV S w x va vk) (hf : Fit1 x) :
    Calls Tryz.prog 35 #[x.val va vk,.bool p] w (IntPost (M3.oneE x p) w):=by
  have hE:=Lib.hid (fun W h1 h2 => ref03Element S x va vk W h1 h2 hf)
  obtain ⟨hat,hkd⟩:=hx
  have hx0 : RepV S w x va vk:=⟨hat,hkd⟩
  obtain ⟨a,cap,rfl⟩:=hat.slice
  obtain ⟨a2,cap2,rfl⟩:=hkd.slice
  cases x with | mk k n ats t ks =>
  obtain ⟨hf1,hf2,hf3,_⟩:=hf
  simp only [Nd.val,Nd.kind,Nd.name,Nd.text,Nd.attrs,Nd.kids] at *
  have hb0:=(Below.refl w.heap.size w).alloc (Nat.le_refl _) (.cells #[.int .i64 k,.string n,.slice a ats.length cap,.string t,.slice a2 ks.length cap2] 41)
  have hbx0:=Box.new w 41 [.int .i64 k,.string n,.slice a ats.length cap,.string t,.slice a2 ks.length cap2]
  have hxb:=Lib.hid (hx0.below hS hb0)
  have hSb:=Lib.hid (show ∀ b,S b → b < (w.alloc (.cells #[.int .i64 k,.string n,.slice a ats.length cap,.string t,.slice a2 ks.length cap2] 41)).heap.size from fun b h => by have:=hS b h; simp; omega)
  have hI:=Lib.hid (fun W => ref01Is t W hf2)
  have hr : Hid (M3.oneE (.mk k n ats t ks) p = if k = 1 then M3.elemE (.mk k n ats t ks) else if k = 2 then (if (n.toList.isEmpty && ats.isEmpty && ks.isEmpty) then (if M1.isB t.data.toList && !(t.toList.isEmpty || p) then 0 else 2) else 7) else if k = 3 then (if (n.toList.isEmpty && ats.isEmpty && ks.isEmpty) then (if M1.isB t.data.toList then 0 else 2) else 7) else 7):=rfl
  clear hat hkd hx0 hS hf3
  by_cases h1 : k = 1
  · subst h1
    rw [if_pos rfl] at hr
    clear hI
    go_enter Tryz.func35,Tryz.ntmps35
    go_wp2_with fail
    refine (hE.out _ hSb.out hxb.out).mono ?_
    rintro e w1 ⟨rfl,hb1⟩
    go_wp2
    go_ret
    exact ⟨by rw [hr.out]; rfl,hb0.trans (hb1.mono (by simp))⟩
  rw [if_neg h1] at hr
  have h1b : (k == 1) = false:=by simpa using h1
  clear hE hxb hSb
  by_cases h23 : k = 2 ∨ k = 3
  · generalize M1.isB t.data.toList = q at *
    have seven : (n.toList.isEmpty && ats.isEmpty && ks.isEmpty) = false → Hid (M3.oneE (.mk k n ats t ks) p = 7):=by
      intro h
      show _ = _
      rw [hr.out,h]
      rcases h23 with rfl | rfl <;> simp
    have h2b : (k != 2) = !(k == 2):=rfl
    have h3b : (k != 3) = !(k == 3):=rfl
    cases hne : n.toList.isEmpty
    · have hr2:=seven (by rw [hne]; rfl)
      clear hr seven h2b h3b
      rcases h23 with rfl | rfl
      all_goals
        go_enter Tryz.func35,Tryz.ntmps35
        go_wp2
        go_ret
        exact ⟨by rw [hr2.out]; rfl,hb0⟩
    · cases ats with
      | cons a0 r0 =>
        have hr2:=seven (by simp)
        have hl1 : (0 : Int) < ((a0 :: r0).length : Int):=by simp
        generalize (a0 :: r0).length = m at *
        clear hr seven h2b h3b hb0 hbx0
        rcases h23 with rfl | rfl
        all_goals
          go_enter Tryz.func35,Tryz.ntmps35
          go_wp2
          go_ret
          exact ⟨by rw [hr2.out]; rfl,(Below.refl _ _).alloc (Nat.le_refl _) _⟩
      | nil =>
        simp only [List.length_nil] at hb0 hbx0
        cases ks with
        | cons a0 r0 =>
          have hr2:=seven (by simp)
          have hl1 : (0 : Int) < ((a0 :: r0).length : Int):=by simp
          generalize (a0 :: r0).length = m at *
          clear hr seven h2b h3b hb0 hbx0
          simp only [List.length_nil]
          rcases h23 with rfl | rfl
          all_goals
            go_enter Tryz.func35,Tryz.ntmps35
            go_wp2
            go_ret
            exact ⟨by rw [hr2.out]; rfl,(Below.refl _ _).alloc (Nat.le_refl _) _⟩
        | nil =>
          simp only [List.length_nil] at hb0 hbx0
          simp only [List.length_nil]
          clear seven h2b h3b
          rw [hne] at hr
          rcases h23 with rfl | rfl
          · replace hr : M3.oneE (.mk 2 n [] t []) p = if (q && !(t.toList.isEmpty || p)) then 0 else 2:=hr.out
            cases hte : t.toList.isEmpty <;> cases q <;> cases p
            all_goals
              rw [hte] at hr
              replace hr:=Lib.hid hr
              go_enter Tryz.func35,Tryz.ntmps35
              go_wp2_with fail
              refine (hI.out _).mono ?_
              rintro e w1 ⟨rfl,hb1⟩
              have hbx1:=hbx0.below hb1 (by simp)
              have c0:=hbx1.cell (i:=0) rfl
              have c3:=hbx1.cell (i:=3) rfl
              go_wp2
              go_ret
              exact ⟨by rw [hr.out]; rfl,hb0.trans (hb1.mono (by simp))⟩
          · replace hr : M3.oneE (.mk 3 n [] t []) p = if q then 0 else 2:=hr.out
            cases q
            all_goals
              replace hr:=Lib.hid hr
              go_enter Tryz.func35,Tryz.ntmps35
              go_wp2_with fail
              refine (hI.out _).mono ?_
              rintro e w1 ⟨rfl,hb1⟩
              have hbx1:=hbx0.below hb1 (by simp)
              have c0:=hbx1.cell (i:=0) rfl
              have c3:=hbx1.cell (i:=3) rfl
              go_wp2
              go_ret
              exact ⟨by rw [hr.out]; rfl,hb0.trans (hb1.mono (by simp))⟩
  · rw [if_neg (by omega),if_neg (by omega)] at hr
    have h2b : (k != 2) = true:=by simp [bne]; omega
    have h3b : (k != 3) = true:=by simp [bne]; omega
    clear h1 h23
    go_enter Tryz.func35,Tryz.ntmps35
    go_wp2
    go_ret
    exact ⟨by rw [hr.out]; rfl,hb0⟩
end Go.Proofs.YteefodibpjgicaaGreat

namespace Go.Proofs.YteefodibpjgicaaGreat
open Go.RowKit Go.ChangeShapes Go.WideShapes
section
variable {H : Type} {enc : TypeId × Value → H} {w : World} {base : Nat} {spare : Nat → Bool} {held : Bool}
end
theorem Row.atS {S : Nat → Prop} {w : World} {a : Option Addr} {n cap : Nat} {l : List ByteArray} (h : Row S w 1 (.slice a n cap) l.length (l.flatMap fun s => [.string s])) (i : Nat) (hi : i < l.length) :
    ∃ b off,a = some ⟨b,off,none⟩ ∧ S b ∧ w.cell? ⟨b,off + i,none⟩ = some (.string l[i]):=by
  obtain ⟨h0,a',cap',h1,h2,h3,h4,h5⟩:=h
  cases h1
  obtain ⟨b,off,rfl,h7,h8⟩:=h5 (by omega)
  refine ⟨b,off,rfl,h7,h8 i _ ?_⟩
  have : l.flatMap (fun s => [Value.string s]) = l.map Value.string:=(List.map_eq_flatMap).symm
  rw [this,List.getElem?_map,List.getElem?_eq_getElem hi]; rfl
theorem fitN_iff {l : List Nd} : FitN l ↔ ∀ x ∈ l,Fit1 x ∧ FitN x.kids:=by
  induction l with
  | nil => simp [fitN_nil]
  | cons x r ih => rw [fitN_cons,ih]; simp; exact ⟨fun h => ⟨⟨h.1,h.2.1⟩,h.2.2⟩,fun h => ⟨h.1.1,h.1.2,h.2⟩⟩
end Go.Proofs.YteefodibpjgicaaGreat

namespace Go.Proofs.YteefodibpjgicaaGreat
open Go.RowKit
def behind (l : List Nd) : Nat → Bool
  | 0 => false
  | i + 1 => match l[i]? with | some x => x.kind == 2 | none => false
theorem behind_succ (l : List Nd) (i : Nat) (h : i < l.length) : behind l (i + 1) = (l[i].kind == 2):=by
  show (match l[i]? with | some x => x.kind == 2 | none => false) = _
  rw [List.getElem?_eq_getElem h]
theorem may_drop (l : List Nd) (i : Nat) (h : i < l.length) : M3.mayE (behind l i) (l.drop i) = if M3.oneE l[i] (behind l i) ≠ 0 then M3.oneE l[i] (behind l i) else if M3.mayE false l[i].kids ≠ 0 then M3.mayE false l[i].kids else M3.mayE (behind l (i + 1)) (l.drop (i + 1)):=by
  rw [List.drop_eq_getElem_cons h,M3.mayE_cons,behind_succ l i h]
theorem wpStill_skip {P : Program} {ops : Array Oper} {w : World} {Q : Act → Prop} {a : Act} {o : Oper} {rest : List Oper} (hw : Region.wanted o (yielded ops a.tmps) = false)
    (h : ∀ K : Act → Prop,(∀ a,wpStill P ops w Q rest a → K a) → K (a.put o.dst undef)) : wpStill P ops w Q (o :: rest) a:=by
  unfold wpStill
  rw [if_neg (by simp [hw])]
  exact h _ (fun _ h => h)
set_option maxHeartbeats 8000000 in
set_option maxRecDepth 100000 in
theorem ref03May (wt : Nat) : ∀ (S : Nat → Prop) (v : Value) (l : List Nd) (w : World),M3.weight l < wt → FitN l → (∀ b,S b → b < w.heap.size) → RepN S w v l →
    Calls Tryz.prog 19 #[v] w (IntPost (M3.mayE false l) w):=by
  induction wt with
  | zero => intro S v l w h; omega
  | succ wt ih =>
  intro S v l w hwt hfit hS hr
  obtain ⟨a,cap,rfl⟩:=hr.slice
  obtain ⟨_,hlc,hcm⟩:=hr.len
  replace ih:=Lib.hid ih
  have h0 : Hid (M3.mayE false l = M3.mayE (behind l 0) (l.drop 0)):=rfl
  replace hfit:=Lib.hid hfit
  go_enter Tryz.func19,Tryz.ntmps19
  go_wp2_with fail
  go_loopw [3,4] (fun u3 _ wr => ∃ i : Nat,i ≤ l.length ∧ u3 = .int .i64 (i : Int) ∧ Hid (M3.mayE false l = M3.mayE (behind l i) (l.drop i)) ∧ Below w.heap.size w wr) (fun u3 _ _ => l.length - (intOf u3).toNat)
  case atStart => exact ⟨0,by omega,rfl,h0,Below.refl _ _⟩
  case round =>
    obtain ⟨i,hi,rfl,hv,hb⟩:=hrel
    have hz:=hb.size
    by_cases hlt : i < l.length
    · have hr1:=hr.below hS hb
      obtain ⟨b,off,va,vk,rfl,hSb,c0,c1,c2,c3,c4,hrv⟩:=hr1.at_ i hlt
      have hbl:=hS b hSb
      have hmd:=hv.out.trans (may_drop l i hlt)
      obtain ⟨hf1,hf2⟩:=fitN_iff.1 hfit.out _ (List.getElem_mem hlt)
      have hwk:=weight_mem (List.getElem_mem hlt)
      have hprev : ∀ _ : 0 < i,wr.cell? ⟨b,off + (i - 1) * 5,none⟩ = some (.int .i64 l[i - 1].kind) ∧ behind l i = (l[i - 1].kind == 2):=by
        intro h
        obtain ⟨b',off',va',vk',e,_,d0,_⟩:=hr1.at_ (i - 1) (by omega)
        cases e
        refine ⟨d0,?_⟩
        have:=behind_succ l (i - 1) (by omega)
        rwa [show i - 1 + 1 = i by omega] at this
      generalize l[i] = x at *
      have hrv0:=hrv
      obtain ⟨a1,e1,rfl⟩:=hrv.at_.slice
      obtain ⟨a2,e2,rfl⟩:=hrv.kids.slice
      have hOne:=Lib.hid (fun p => ref03One S x _ _ p wr.drew (fun b h => by have:=hS b h; simp; omega) (hrv0.keep (fun _ _ => rfl)) hf1)
      have hih:=Lib.hid (fun W (hW : Below wr.heap.size wr W) => ih.out S (.slice a2 x.kids.length e2) x.kids W (by omega) hf2 (fun b h => by have:=hS b h; have:=hW.size; omega) (RepN.below (w:=wr) (B:=wr.heap.size) hrv.kids (fun b h => by have:=hS b h; omega) hW))
      generalize hrest : M3.mayE (behind l (i + 1)) (l.drop (i + 1)) = rest at *
      replace hrest:=Lib.hid hrest
      have hI0 : (0 : Int) ≤ (i : Int):=by omega
      have hI1 : (i : Int) < (l.length : Int):=by omega
      clear hv hr1 hrv0
      replace hmd:=Lib.hid hmd
      by_cases hi0 : 0 < i
      · obtain ⟨d0,hbe⟩:=hprev hi0
        have hmd:=hmd.out
        rw [hbe] at hmd
        have hi1 : (0 : Int) < (i : Int):=by omega
        have hj1 : (i : Int) - 1 = ((i - 1 : Nat) : Int):=by omega
        have hj2 : ((i - 1 : Nat) : Int) < (l.length : Int):=by omega
        have hj3 : (0 : Int) ≤ ((i - 1 : Nat) : Int):=by omega
        have hj5 : IntKind.i64.wrap ((i - 1 : Nat) : Int) = ((i - 1 : Nat) : Int):=IntWalk.i64_in _ ⟨by omega,by omega⟩
        have hj4 : i - 1 < l.length:=by omega
        clear hprev
        generalize l[i - 1].kind = pk at *
        obtain ⟨j,hj⟩ : ∃ j,i - 1 = j:=⟨_,rfl⟩
        rw [hj] at d0 hj1 hj2 hj3 hj4 hj5
        clear hj
        generalize hpq : (pk == 2) = pq at *
        go_wp2_with fail
        go_still_tail 15,(by kernel_rfl)
        change wpList _ _ _ _ _ wr.drew
        go_wp2_with fail
        refine (hOne.out pq).mono ?_
        rintro e w2 ⟨rfl,hb2⟩
        have hbw2 : Below wr.heap.size wr w2:=((Below.refl _ wr).drew).trans hb2
        have hz2:=hbw2.size
        have c4':=(hbw2.cell (p:=⟨b,off + i * 5 + 4,none⟩) (by simp; omega)).trans c4
        clear hOne c0 c1 c2 c3 c4
        generalize M3.oneE x pq = z at *
        by_cases hz1 : z = 0
        · have hz1b : (z == 0) = true:=by simpa using hz1
          rw [hz1,if_neg (by simp)] at hmd
          replace hz1:=Lib.hid hz1
          have hk2:=Lib.hid (hih.out w2 hbw2)
          clear hih
          go_wp2_with fail
          refine hk2.out.mono ?_
          rintro e w3 ⟨rfl,hb3⟩
          have hbw3 : Below w.heap.size w w3:=(hb.trans (hbw2.mono hz)).trans (hb3.mono (by omega))
          clear hk2 c4'
          generalize M3.mayE false x.kids = y at *
          by_cases hy : y = 0
          · rw [hy,if_neg (by simp)] at hmd
            have hy1 : (y == 0) = true:=by simpa using hy
            replace hy:=Lib.hid hy
            go_wp2_with fail
            go_roundw
            case rel => exact ⟨i + 1,by omega,by go_num,by show _ = _; rw [hmd,hrest.out],hbw3⟩
            case measure => exact meas_nat hlt
          · rw [if_pos hy] at hmd
            have hy1 : (y == 0) = false:=by simpa using hy
            replace hmd:=Lib.hid hmd
            go_wp2_with fail
            go_ret
            exact ⟨by rw [hmd.out]; rfl,hbw3⟩
        · rw [if_pos hz1] at hmd
          have hz1b : (z == 0) = false:=by simpa using hz1
          replace hmd:=Lib.hid hmd
          clear hih
          go_wp2_with fail
          go_ret
          exact ⟨by rw [hmd.out]; rfl,hb.trans (hbw2.mono hz)⟩
      · clear hprev
        have hmd:=hmd.out
        have hbe : behind l i = false:=by
          have : i = 0:=by omega
          subst this; rfl
        rw [hbe] at hmd
        obtain ⟨q,hd3⟩ : ∃ q,decide (0 < i) = q:=⟨_,rfl⟩
        have hq2 : Hid (q = false):=by show _ = _; rw [← hd3]; exact decide_eq_false hi0
        replace hi0:=Lib.hid hi0
        go_wp2_with fail
        refine wp_region_still_tail 15 (by kernel_rfl) (by kernel_rfl) ?_
        simp only [List.take_succ_cons,List.take_zero,List.drop_succ_cons,List.drop_zero]
        iterate 7 still_step
        iterate 7
          refine wpStill_skip (by simp [Region.wanted,yielded,hq2.out]) (fun K hK => ?_)
          go_simp
          refine hK _ ?_
          clear hK K
        obtain rfl : q = false:=hq2.out
        still_step
        refine wpStill_nil ?_
        change wpList _ _ _ _ _ wr.drew
        go_wp2_with fail
        refine (hOne.out false).mono ?_
        rintro e w2 ⟨rfl,hb2⟩
        have hbw2 : Below wr.heap.size wr w2:=((Below.refl _ wr).drew).trans hb2
        have hz2:=hbw2.size
        have c4':=(hbw2.cell (p:=⟨b,off + i * 5 + 4,none⟩) (by simp; omega)).trans c4
        clear hOne c0 c1 c2 c3 c4
        generalize M3.oneE x false = z at *
        by_cases hz1 : z = 0
        · have hz1b : (z == 0) = true:=by simpa using hz1
          rw [hz1,if_neg (by simp)] at hmd
          replace hz1:=Lib.hid hz1
          have hk2:=Lib.hid (hih.out w2 hbw2)
          clear hih
          go_wp2_with fail
          refine hk2.out.mono ?_
          rintro e w3 ⟨rfl,hb3⟩
          have hbw3 : Below w.heap.size w w3:=(hb.trans (hbw2.mono hz)).trans (hb3.mono (by omega))
          clear hk2 c4'
          generalize M3.mayE false x.kids = y at *
          by_cases hy : y = 0
          · rw [hy,if_neg (by simp)] at hmd
            have hy1 : (y == 0) = true:=by simpa using hy
            replace hy:=Lib.hid hy
            go_wp2_with fail
            go_roundw
            case rel => exact ⟨i + 1,by omega,by go_num,by show _ = _; rw [hmd,hrest.out],hbw3⟩
            case measure => exact meas_nat hlt
          · rw [if_pos hy] at hmd
            have hy1 : (y == 0) = false:=by simpa using hy
            replace hmd:=Lib.hid hmd
            go_wp2_with fail
            go_ret
            exact ⟨by rw [hmd.out]; rfl,hbw3⟩
        · rw [if_pos hz1] at hmd
          have hz1b : (z == 0) = false:=by simpa using hz1
          replace hmd:=Lib.hid hmd
          clear hih
          go_wp2_with fail
          go_ret
          exact ⟨by rw [hmd.out]; rfl,hb.trans (hbw2.mono hz)⟩
    · obtain rfl : i = l.length:=by omega
      rw [List.drop_length,M3.mayE_nil] at hv
      go_wp2_with fail
      go_ret
      exact ⟨by rw [hv.out]; rfl,hb⟩
end Go.Proofs.YteefodibpjgicaaGreat

namespace Go.Proofs.YteefodibpjgicaaGreat
namespace M3
def wordsL : List ByteArray:=[⟨#[97]⟩,⟨#[98]⟩,⟨#[112]⟩,⟨#[117,108]⟩,⟨#[108,105]⟩,⟨#[98,114]⟩,⟨#[105,109,103]⟩,⟨#[100,105,118]⟩,⟨#[115,99,114,105,112,116]⟩,⟨#[120,45,121]⟩]
def attrsL : List ByteArray:=[⟨#[105,100]⟩,⟨#[104,114,101,102]⟩,⟨#[116,105,116,108,101]⟩,⟨#[100,97,116,97,45,97]⟩,⟨#[111,110,99,108,105,99,107]⟩]
def sumB (l : List UInt8) : Nat:=(l.map UInt8.toNat).sum
def wordN (s : ByteArray) : ByteArray:=if namedB s.data.toList then s else wordsL.getD (sumB s.data.toList % 10) ⟨#[]⟩
def attrN (s : ByteArray) : ByteArray:=if attributedB s.data.toList then s else attrsL.getD (s.size % 5) ⟨#[]⟩
def rightN (s : ByteArray) : ByteArray:=⟨(M1.right s.data.toList).toArray⟩
theorem rightN_size (s : ByteArray) : (rightN s).size ≤ 4 * s.size:=M1.right_len s.data.toList
theorem wordsL_ok : ∀ i,i < 10 → namedB (wordsL.getD i ⟨#[]⟩).data.toList = true ∧ (wordsL.getD i ⟨#[]⟩).size ≤ 6:=by decide
theorem attrsL_low : ∀ i,i < 5 → ((attrsL.getD i ⟨#[]⟩).data.toList.all fun c => decide (c.toNat < 128 ∧ c.toNat ≠ 0 ∧ c.toNat ≠ 13)) = true ∧ !(attrsL.getD i ⟨#[]⟩).data.toList.isEmpty = true ∧ (attrsL.getD i ⟨#[]⟩).data.toList.any capB = false ∧ (attrsL.getD i ⟨#[]⟩).data.toList.any badB = false ∧ (attrsL.getD i ⟨#[]⟩).size ≤ 7:=by decide
theorem wordN_size (s : ByteArray) (b : Nat) (h : s.size ≤ b) (h6 : 6 ≤ b) : (wordN s).size ≤ b:=by
  unfold wordN
  split
  · exact h
  · have:=(wordsL_ok _ (Nat.mod_lt (sumB s.data.toList) (by decide : 0 < 10))).2; omega
theorem attrN_size (s : ByteArray) (b : Nat) (h : s.size ≤ b) (h7 : 7 ≤ b) : (attrN s).size ≤ b:=by
  unfold attrN
  split
  · exact h
  · have:=(attrsL_low _ (Nat.mod_lt s.size (by decide : 0 < 5))).2.2.2.2; omega
def addA (acc : List Att) (a : Att) : List Att:=if (valueOf (attrN a.name) acc).isSome then acc else acc ++ [⟨attrN a.name,rightN a.value⟩]
def goodA (l : List Att) : List Att:=l.foldl addA []
theorem goodA_snoc (l : List Att) (a : Att) : goodA (l ++ [a]) = addA (goodA l) a:=by simp [goodA]
def kindN (k : Int) : Int:=if k < 1 ∨ 3 < k then 1 else k
def goodN : List Nd → List Nd
  | [] => []
  | .mk k n a t ks :: r => push' (if kindN k = 1 then .mk 1 (wordN n) (goodA a) ⟨#[]⟩ (merge (goodN ks)) else .mk (kindN k) ⟨#[]⟩ [] (rightN t) []) (goodN r)
termination_by l => SizeOf.sizeOf l
where push' (x : Nd) (r : List Nd) : List Nd:=x :: r
theorem goodN_nil : goodN [] = []:=by rw [goodN]
def good1 (x : Nd) : Nd:=if kindN x.kind = 1 then .mk 1 (wordN x.name) (goodA x.attrs) ⟨#[]⟩ (merge (goodN x.kids)) else .mk (kindN x.kind) ⟨#[]⟩ [] (rightN x.text) []
theorem good1_mk (k : Int) (n : ByteArray) (a : List Att) (t : ByteArray) (ks : List Nd) : good1 (.mk k n a t ks) = if kindN k = 1 then .mk 1 (wordN n) (goodA a) ⟨#[]⟩ (merge (goodN ks)) else .mk (kindN k) ⟨#[]⟩ [] (rightN t) []:=rfl
theorem goodN_cons (x : Nd) (r : List Nd) : goodN (x :: r) = good1 x :: goodN r:=by cases x; rw [goodN]; rfl
theorem goodN_map (l : List Nd) : goodN l = l.map good1:=by
  induction l with
  | nil => exact goodN_nil
  | cons x r ih => rw [goodN_cons,ih]; rfl
def good (l : List Nd) : List Nd:=merge (goodN l)
theorem addA_len (acc : List Att) (a : Att) : (addA acc a).length ≤ acc.length + 1:=by unfold addA; split <;> simp
theorem goodA_len (l : List Att) : (goodA l).length ≤ l.length:=by
  have key : ∀ (l acc : List Att),(l.foldl addA acc).length ≤ acc.length + l.length:=by
    intro l
    induction l with
    | nil => intro acc; exact Nat.le_refl _
    | cons a r ih => intro acc; have h1:=ih (addA acc a); have h2:=addA_len acc a; rw [List.foldl_cons,List.length_cons]; omega
  have:=key l []
  simpa [goodA] using this
theorem goodA_all {P : Att → Prop} (l : List Att) (h : ∀ a ∈ l,P ⟨attrN a.name,rightN a.value⟩) : ∀ a ∈ goodA l,P a:=by
  have key : ∀ (l acc : List Att),(∀ a ∈ l,P ⟨attrN a.name,rightN a.value⟩) → (∀ a ∈ acc,P a) → ∀ a ∈ l.foldl addA acc,P a:=by
    intro l
    induction l with
    | nil => intro acc _ h; exact h
    | cons a r ih =>
      intro acc h1 h2
      rw [List.foldl_cons]
      refine ih _ (fun x hx => h1 x (by simp [hx])) ?_
      unfold addA
      split
      · exact h2
      · intro x hx
        rcases List.mem_append.1 hx with hx | hx
        · exact h2 x hx
        · simp at hx; subst hx; exact h1 a (by simp)
  exact key l [] h (fun a ha => by cases ha)
theorem kindN_in (k : Int) : kindN k = 1 ∨ kindN k = 2 ∨ kindN k = 3:=by unfold kindN; split <;> omega
end M3
end Go.Proofs.YteefodibpjgicaaGreat

namespace Go.Proofs.YteefodibpjgicaaGreat
open Go.RowKit
theorem sumB_succ (l : List UInt8) (k : Nat) (h : k < l.length) : M3.sumB (l.take (k + 1)) = M3.sumB (l.take k) + l[k].toNat:=by
  unfold M3.sumB
  rw [List.take_succ_eq_append_getElem h,List.map_append,List.sum_append]
  simp
theorem sumB_le (l : List UInt8) : M3.sumB l ≤ 255 * l.length:=by
  unfold M3.sumB
  induction l with
  | nil => simp
  | cons c r ih => simp only [List.map_cons,List.sum_cons,List.length_cons]; have:=c.toNat_lt; omega
def StrPost (s : ByteArray) (w : World) (e : Ending) (w' : World) : Prop:=e = .returned (.string s) ∧ Below w.heap.size w w'
set_option maxHeartbeats 4000000 in
set_option maxRecDepth 100000 in
theorem ref03Word (s : ByteArray) (w : World) (hs : s.size ≤ 1073741824) : Calls Tryz.prog 47 #[.string s] w (StrPost (M3.wordN s) w):=by
  have hN:=Lib.hid (fun W => ref03Named s W (by omega))
  have hw : Hid (M3.wordN s = if M3.namedB s.data.toList then s else M3.wordsL.getD (M3.sumB s.data.toList % 10) ⟨#[]⟩):=rfl
  generalize M3.namedB s.data.toList = p at *
  have hbx:=Box.new w 9 (M3.wordsL.map Value.string)
  have hb0 : Below w.heap.size w (w.alloc (.cells (M3.wordsL.map Value.string).toArray 9)):=(Below.refl _ _).alloc (Nat.le_refl _) _
  have hlen : s.data.toList.length = s.size:=rfl
  have hle:=sumB_le s.data.toList
  go_enter Tryz.func47,Tryz.ntmps47
  go_wp2_with fail
  obtain ⟨W0,hW0⟩ : ∃ W0,w.alloc (.cells (M3.wordsL.map Value.string).toArray 9) = W0:=⟨_,rfl⟩
  rw [hW0] at hbx hb0
  change w.alloc (.cells #[.string ⟨#[97]⟩,.string ⟨#[98]⟩,.string ⟨#[112]⟩,.string ⟨#[117,108]⟩,.string ⟨#[108,105]⟩,.string ⟨#[98,114]⟩,.string ⟨#[105,109,103]⟩,.string ⟨#[100,105,118]⟩,.string ⟨#[115,99,114,105,112,116]⟩,.string ⟨#[120,45,121]⟩] 9) = W0 at hW0
  rw [hW0]
  clear hW0
  go_loop [4,5] (fun u4 u5 => ∃ k : Nat,k ≤ s.size ∧ u5 = .int .i64 (k : Int) ∧ u4 = .int .i64 (M3.sumB (s.data.toList.take k) : Int)) (fun _ u5 => s.size - (intOf u5).toNat)
  case atStart => exact ⟨0,by omega,rfl,by simp [M3.sumB]⟩
  case round =>
    obtain ⟨k,hk,rfl,rfl⟩:=hrel
    have hl2:=sumB_le (s.data.toList.take k)
    have hl3 : (s.data.toList.take k).length ≤ k:=List.length_take_le _ _
    by_cases hlt : k < s.size
    · have hsu:=sumB_succ s.data.toList k hlt
      have hsu2 : Hid (M3.sumB (s.data.toList.take (k + 1)) = M3.sumB (s.data.toList.take k) + s[k].toNat):=hsu
      clear hsu
      have hb:=s[k].toNat_lt
      generalize M3.sumB (s.data.toList.take k) = m at *
      go_wp2_with fail
      go_round
      case rel => exact ⟨k + 1,by omega,by go_num,by rw [hsu2.out]; go_num⟩
      case measure => exact meas_nat hlt
    · obtain rfl : k = s.size:=by omega
      rw [List.take_of_length_le (show s.data.toList.length ≤ s.size from Nat.le_refl _)] at *
      generalize M3.sumB s.data.toList = m at *
      cases p
      · replace hw : Hid (M3.wordN s = M3.wordsL.getD (m % 10) ⟨#[]⟩):=hw
        go_wp2_with fail
        refine (hN.out _).mono ?_
        rintro e w1 ⟨rfl,rfl⟩
        have hm10 : m % 10 < 10:=Nat.mod_lt _ (by decide)
        have hcell:=hbx.cell (i:=m % 10) (v:=.string (M3.wordsL.getD (m % 10) ⟨#[]⟩)) (by
          rw [List.getElem?_map,List.getElem?_eq_getElem (by exact hm10),List.getD_eq_getElem?_getD,List.getElem?_eq_getElem (by exact hm10)]; rfl)
        generalize M3.wordsL.getD (m % 10) ⟨#[]⟩ = ans at *
        have hm0 : (0 : Int) ≤ (m : Int):=by omega
        have hmi : (m : Int) % 10 = ((m % 10 : Nat) : Int):=by omega
        have hmj : ((m % 10 : Nat) : Int) < 10:=by omega
        generalize m % 10 = j at *
        go_wp2_with fail
        go_ret
        exact ⟨by rw [hw.out]; rfl,hb0⟩
      · replace hw : Hid (M3.wordN s = s):=hw
        go_wp2_with fail
        refine (hN.out _).mono ?_
        rintro e w1 ⟨rfl,rfl⟩
        go_wp2_with fail
        go_ret
        exact ⟨by rw [hw.out]; rfl,hb0⟩
set_option maxHeartbeats 4000000 in
set_option maxRecDepth 100000 in
theorem ref03Attribute (s : ByteArray) (w : World) (hs : s.size ≤ 268435456) : Calls Tryz.prog 48 #[.string s] w (StrPost (M3.attrN s) w):=by
  have hN:=Lib.hid (ref03Attributed s w hs)
  have hw : Hid (M3.attrN s = if M3.attributedB s.data.toList then s else M3.attrsL.getD (s.size % 5) ⟨#[]⟩):=rfl
  generalize M3.attributedB s.data.toList = p at *
  go_enter Tryz.func48,Tryz.ntmps48
  go_wp2_with fail
  refine hN.out.mono ?_
  rintro e w1 ⟨rfl,hb1⟩
  cases p
  · replace hw : Hid (M3.attrN s = M3.attrsL.getD (s.size % 5) ⟨#[]⟩):=hw
    have hbx:=Box.new w1 9 (M3.attrsL.map Value.string)
    have hb0 : Below w1.heap.size w1 (w1.alloc (.cells (M3.attrsL.map Value.string).toArray 9)):=(Below.refl _ _).alloc (Nat.le_refl _) _
    have hm10 : s.size % 5 < 5:=Nat.mod_lt _ (by decide)
    have hcell:=hbx.cell (i:=s.size % 5) (v:=.string (M3.attrsL.getD (s.size % 5) ⟨#[]⟩)) (by
      rw [List.getElem?_map,List.getElem?_eq_getElem (by exact hm10),List.getD_eq_getElem?_getD,List.getElem?_eq_getElem (by exact hm10)]; rfl)
    have hbb : Below w.heap.size w (w1.alloc (.cells (M3.attrsL.map Value.string).toArray 9)):=bt hb1 hb0
    change (w1.alloc (.cells #[.string ⟨#[105,100]⟩,.string ⟨#[104,114,101,102]⟩,.string ⟨#[116,105,116,108,101]⟩,.string ⟨#[100,97,116,97,45,97]⟩,.string ⟨#[111,110,99,108,105,99,107]⟩] 9)).cell? _ = _ at hcell
    change Below w.heap.size w (w1.alloc (.cells #[.string ⟨#[105,100]⟩,.string ⟨#[104,114,101,102]⟩,.string ⟨#[116,105,116,108,101]⟩,.string ⟨#[100,97,116,97,45,97]⟩,.string ⟨#[111,110,99,108,105,99,107]⟩] 9)) at hbb
    generalize M3.attrsL.getD (s.size % 5) ⟨#[]⟩ = ans at *
    have hmi : (s.size : Int) % 5 = ((s.size % 5 : Nat) : Int):=by omega
    have hmj : ((s.size % 5 : Nat) : Int) < 5:=by omega
    have hmk : (0 : Int) ≤ (s.size : Int):=by omega
    generalize s.size % 5 = j at *
    clear hbx hb0
    go_wp2_with fail
    go_ret
    exact ⟨by rw [hw.out]; rfl,hbb⟩
  · replace hw : Hid (M3.attrN s = s):=hw
    go_wp2_with fail
    go_ret
    exact ⟨by rw [hw.out]; rfl,hb1⟩
end Go.Proofs.YteefodibpjgicaaGreat

namespace Go.Proofs.YteefodibpjgicaaGreat
open Go.RowKit
set_option maxHeartbeats 1000000 in
set_option maxRecDepth 100000 in
theorem ref03Value (S : Nat → Prop) (x : Nd) (va vk : Value) (name : ByteArray) (w : World) (hS : ∀ b,S b → b < w.heap.size) (hat : Row S w 2 va x.attrs.length (cellsA x.attrs)) (hvk : ∃ a n c,vk = .slice a n c) :
    Calls Tryz.prog 49 #[x.val va vk,.string name] w fun e w' => e = .returned (valAns (M3.valueOf name x.attrs)) ∧ Below w.heap.size w w':=by
  obtain ⟨a,cap,rfl⟩:=hat.slice
  obtain ⟨_,hlc,hcm⟩:=hat.len
  obtain ⟨a2,n2,cap2,rfl⟩:=hvk
  cases x with | mk k n ats t ks =>
  simp only [Nd.attrs] at hat hlc hcm ⊢
  simp only [Nd.val,Nd.kind,Nd.name,Nd.text]
  have bx:=Box.new w 41 [.int .i64 k,.string n,.slice a ats.length cap,.string t,.slice a2 n2 cap2]
  have hb:=(Below.refl w.heap.size w).alloc (Nat.le_refl _) (.cells #[.int .i64 k,.string n,.slice a ats.length cap,.string t,.slice a2 n2 cap2] 41)
  have hat1:=hat.below hS hb
  have c2:=bx.cell (i:=2) rfl
  have hz : w.heap.size < (w.alloc (.cells #[.int .i64 k,.string n,.slice a ats.length cap,.string t,.slice a2 n2 cap2] 41)).heap.size:=by simp
  go_enter Tryz.func49,Tryz.ntmps49
  change Box (w.alloc (.cells #[.int .i64 k,.string n,.slice a ats.length cap,.string t,.slice a2 n2 cap2] 41)) _ _ _ at bx
  change (w.alloc (.cells #[.int .i64 k,.string n,.slice a ats.length cap,.string t,.slice a2 n2 cap2] 41)).cell? _ = _ at c2
  go_wp2
  obtain ⟨W,hW⟩ : ∃ W,w.alloc (.cells #[.int .i64 k,.string n,.slice a ats.length cap,.string t,.slice a2 n2 cap2] 41) = W:=⟨_,rfl⟩
  rw [hW] at c2 hb hat1 hz ⊢
  clear hW bx hat
  go_loop [6] (fun u6 => ∃ i : Nat,i ≤ ats.length ∧ u6 = .int .i64 (i : Int) ∧ Hid (M3.valueOf name ats = M3.valueOf name (ats.drop i))) (fun u6 => ats.length - (intOf u6).toNat)
  case atStart => exact ⟨0,by omega,rfl,rfl⟩
  case round =>
    obtain ⟨i,hi,rfl,hv⟩:=hrel
    by_cases hlt : i < ats.length
    · obtain ⟨b,off,rfl,hSb,c0,c1⟩:=hat1.atA i hlt
      have hvd:=M3.valueOf_drop name ats i hlt
      generalize ats[i].name = nm at *
      generalize ats[i].value = vl at *
      have hq : Hid (M3.eqB nm name = (nm.toList == name.toList)):=rfl
      cases he : (nm.toList == name.toList)
      · rw [hq.out,he] at hvd
        replace hvd:=Lib.hid (hv.out.trans hvd)
        clear hv hq
        go_wp2
        go_round
        case rel => exact ⟨i + 1,by omega,by go_num,hvd.out⟩
        case measure => simp [intOf]; omega
      · rw [hq.out,he] at hvd
        replace hvd:=Lib.hid (hv.out.trans hvd)
        clear hv hq
        go_wp2
        go_ret2
        exact ⟨by rw [hvd.out]; rfl,hb⟩
    · have hvd : Hid (M3.valueOf name ats = none):=by show _ = _; rw [hv.out,List.drop_of_length_le (by omega)]; rfl
      go_wp2
      go_ret2
      exact ⟨by rw [hvd.out]; rfl,hb⟩
end Go.Proofs.YteefodibpjgicaaGreat
