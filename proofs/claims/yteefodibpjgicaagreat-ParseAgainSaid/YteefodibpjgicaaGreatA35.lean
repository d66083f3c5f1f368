/- Texts joined: Bld8, All, RegI, Bld9. -/
import Derived.Test.YteefodibpjgicaaGreatA15
import Derived.Test.YteefodibpjgicaaGreatA20
import Derived.Test.YteefodibpjgicaaGreatA24
import Derived.Test.YteefodibpjgicaaGreatA33
import Derived.Test.YteefodibpjgicaaGreatA34
namespace Go.Proofs.YteefodibpjgicaaGreat
open Go.RowKit Go.Maps
theorem keyI : Keyed Tryz.prog 3:=int_keyed Tryz.underlying3
def fnOf (k : Int) : Value:=if k = 1 then .func (.func 213) #[] #[] else if k = 2 then .func (.func 214) #[] #[] else if k = 3 then .func (.func 215) #[] #[] else if k = 4 then .func (.func 216) #[] #[] else .nilFunc
def dngRow : List (Lit × DataW Value):=[(.int .i64 1,.held (fnOf 1)),(.int .i64 2,.held (fnOf 2)),(.int .i64 3,.held (fnOf 3)),(.int .i64 4,.held (fnOf 4))]
def Dng (w : World) (b : Nat) : Prop:=w.ownsMap Tryz.prog 3 heldR b 4 (rowD dngRow (.map []))
set_option maxHeartbeats 4000000 in
theorem bDoings (w : World) : Calls Tryz.prog 207 #[] w fun e w' => ∃ b,e = .returned (.map (some b)) ∧ Dng w' b ∧ Below w.heap.size w w':=by
  have b0:=(Below.refl w.heap.size w).alloc (Nat.le_refl _) (.map #[] 0)
  have o0 : (w.alloc (.map #[] 0)).ownsMap Tryz.prog 3 heldR w.heap.size 0 (.map []):=World.ownsMap_made w Tryz.prog 3 heldR
  have hmm:=@run_makeMap Tryz.prog 196 w
  have hz0 : w.heap.size < (w.alloc (.map #[] 0)).heap.size:=by simp
  generalize w.alloc (.map #[] 0) = w0 at *
  obtain ⟨w1,r1,o1,g1⟩:=o0.update keyI Tryz.underlying196 (by unfold maxLen; omega) (keyOf_int_mk Tryz.underlying3 (a:=1) (by decide)) (val:=.func (.func 213) #[] #[]) (R:=heldR) rfl
  obtain ⟨w2,r2,o2,g2⟩:=o1.update keyI Tryz.underlying196 (by unfold maxLen; omega) (keyOf_int_mk Tryz.underlying3 (a:=2) (by decide)) (val:=.func (.func 214) #[] #[]) (R:=heldR) rfl
  obtain ⟨w3,r3,o3,g3⟩:=o2.update keyI Tryz.underlying196 (by unfold maxLen; omega) (keyOf_int_mk Tryz.underlying3 (a:=3) (by decide)) (val:=.func (.func 215) #[] #[]) (R:=heldR) rfl
  obtain ⟨w4,r4,o4,g4⟩:=o3.update keyI Tryz.underlying196 (by unfold maxLen; omega) (keyOf_int_mk Tryz.underlying3 (a:=4) (by decide)) (val:=.func (.func 216) #[] #[]) (R:=heldR) rfl
  have hB : Hid (Below w.heap.size w w4):=(((b0.grown g1 (by omega) (fun k hk => by cases hk; exact Nat.le_refl _)).grown g2 (by have:=g1.size; omega) (fun k hk => by cases hk; exact Nat.le_refl _)).grown g3 (by have:=g1.size; have:=g2.size; omega) (fun k hk => by cases hk; exact Nat.le_refl _)).grown g4 (by have:=g1.size; have:=g2.size; have:=g3.size; omega) (fun k hk => by cases hk; exact Nat.le_refl _)
  have hD : Hid (Dng w4 w.heap.size):=o4
  clear o0 o1 o2 o3 o4 g1 g2 g3 g4 b0 hz0
  go_enter Tryz.func207,Tryz.ntmps207
  go_wp2
  go_ret
  exact ⟨_,rfl,hD.out,hB.out⟩
def isDo (k : Int) : Bool:=decide (k = 1 ∨ k = 2 ∨ k = 3 ∨ k = 4)
theorem dng_look {w : World} {b : Nat} (h : Dng w b) (k : Int) (hk : (Lit.int .i64 k).wf = true) : (Instr.lookup 196 (.map (some b)) (.int .i64 k) true).run Tryz.prog w = .ok (.tuple #[fnOf k,.bool (isDo k)]) w:=by
  obtain ⟨x,ps,hr,hx⟩:=h.look_ok keyI Tryz.underlying196 (z:=.nilFunc) (Tryz.zeroValue194 _) (R:=heldR) rfl (keyOf_int_mk Tryz.underlying3 hk)
  have hx1 : DataW.held x = (rowD dngRow (.map [])).atKey (.int .i64 k) (.held .nilFunc):=by
    have:=hx
    simp only [heldR,Option.some.injEq,Prod.mk.injEq] at this
    exact this.1
  have hkk : ∀ p ∈ dngRow,WideAt.IsKeyLit p.1:=by
    intro p hp
    simp only [dngRow,List.mem_cons,List.not_mem_nil,or_false] at hp
    rcases hp with rfl | rfl | rfl | rfl <;> exact trivial
  have hd : dngRow.Pairwise (fun p q => p.1 ≠ q.1):=by simp [dngRow]
  have hat:=fun p hp => rowD_at dngRow (.map []) (.held .nilFunc) p isMap_empty hkk hd hp
  have hhas : has (rowD dngRow (.map [])) (.int .i64 k) = dngRow.any (fun p => p.1.sameKey (.int .i64 k)):=by
    rw [rowD_has dngRow (.map []) _ isMap_empty hkk]
    show (_ || false) = _
    rw [Bool.or_false]
  rw [hr,hhas]
  by_cases h1 : k = 1
  · subst h1
    rw [hat (.int .i64 1,.held (fnOf 1)) (by simp [dngRow])] at hx1
    cases hx1; rfl
  by_cases h2 : k = 2
  · subst h2
    rw [hat (.int .i64 2,.held (fnOf 2)) (by simp [dngRow])] at hx1
    cases hx1; rfl
  by_cases h3 : k = 3
  · subst h3
    rw [hat (.int .i64 3,.held (fnOf 3)) (by simp [dngRow])] at hx1
    cases hx1; rfl
  by_cases h4 : k = 4
  · subst h4
    rw [hat (.int .i64 4,.held (fnOf 4)) (by simp [dngRow])] at hx1
    cases hx1; rfl
  have hno : ∀ p ∈ dngRow,p.1 ≠ .int .i64 k:=by
    intro p hp
    simp only [dngRow,List.mem_cons,List.not_mem_nil,or_false] at hp
    rcases hp with rfl | rfl | rfl | rfl <;> (intro e; injection e with e1 e2; omega)
  rw [rowD_other _ _ _ _ hno] at hx1
  have hx2 : DataW.held x = .held .nilFunc:=hx1
  cases hx2
  have e1 : fnOf k = .nilFunc:=by unfold fnOf; rw [if_neg h1,if_neg h2,if_neg h3,if_neg h4]
  have e2 : isDo k = false:=by unfold isDo; simp [h1,h2,h3,h4]
  have e3 : dngRow.any (fun p => p.1.sameKey (.int .i64 k)) = false:=by
    rw [List.any_eq_false]
    intro p hp
    rw [sameKey_ne (hno p hp)]
    decide
  rw [e1,e2,e3]
theorem BS.mono {F : Nat → Prop} {w : World} {g mb q q' : Nat} {s : M7.St} (h : BS F w g mb s q) (hq : q ≤ q') : BS F w g mb s q':=by
  obtain ⟨vo,vt,pt,fs,tx,n,D,h1,h2⟩:=h
  exact ⟨vo,vt,pt,fs,tx,n,D,h1,⟨h2.len,h2.L,h2.el,h2.notx,h2.nxt,h2.map,by have:=h2.fsq; omega,by have:=h2.nq; omega,by have:=h2.tq; omega,by have:=h2.wq; omega,h2.root⟩⟩
theorem BStep.mono {F : Nat → Prop} {w w' : World} {g mb q q' : Nat} {s : M7.St} {e : Ending} (h : BStep F w g mb s q e w') (hq : q ≤ q') : BStep F w g mb s q' e w':=⟨h.1,h.2.1.mono hq,h.2.2⟩
theorem BS.below {F : Nat → Prop} {w w' : World} {g mb q : Nat} {s : M7.St} (h : BS F w g mb s q) (hb : Below w.heap.size w w') : BS F w' g mb s q:=by
  obtain ⟨vo,vt,pt,fs,tx,n,D,h1,h2⟩:=h
  exact ⟨vo,vt,pt,fs,tx,n,D,h1.below hb,h2⟩
theorem BS.lt {F : Nat → Prop} {w : World} {g mb q : Nat} {s : M7.St} (h : BS F w g mb s q) : ∀ b,F b → b < w.heap.size:=by
  obtain ⟨vo,vt,pt,fs,tx,n,D,h1,h2⟩:=h
  exact h1.lt
theorem BStep.start {F : Nat → Prop} {w w0 w' : World} {g mb q : Nat} {s : M7.St} {e : Ending} (h : BStep F w0 g mb s q e w') (hb : Below w.heap.size w w0) (hlt : ∀ b,F b → b < w.heap.size) : BStep F w g mb s q e w':=by
  obtain ⟨h0,⟨vo,vt,pt,fs,tx,n,D,h1,h2⟩,h3⟩:=h
  have r:=Reach.start (F:=F) (w:=w) ⟨h1,h3⟩ hb hlt
  exact ⟨h0,⟨vo,vt,pt,fs,tx,n,D,r.1,h2⟩,r.2⟩
set_option maxHeartbeats 8000000 in
set_option maxRecDepth 100000 in
theorem bPut {F : Nat → Prop} {w : World} {g mb q : Nat} {s : M7.St} {tk : Tok} {va : Value} {S : Nat → Prop} (h : BS F w g mb s q) (hq : q ≤ 400000) (ht : FitT tk) (hkw : (Lit.int .i64 tk.kind).wf = true) (hS : ∀ b,S b → b < w.heap.size ∧ ¬ F b) (hat : Row S w 2 va tk.attrs.length (cellsA tk.attrs)) :
    Calls Tryz.prog 205 #[.pointer (some ⟨g,0,none⟩),tk.val va] w (BStep F w g mb (M7.step s tk) (q + tokQ tk)):=by
  obtain ⟨av,cv,rfl⟩:=hat.slice
  obtain ⟨s',hs'⟩ : ∃ x,Hid (x = M7.step s tk):=⟨_,rfl⟩
  rw [← hs'.out]
  have bz:=Box.new w 87 [.int .i64 tk.kind,.string tk.name,.slice av tk.attrs.length cv,.string tk.text]
  have hb0 : Below w.heap.size w (w.alloc (.cells #[.int .i64 tk.kind,.string tk.name,.slice av tk.attrs.length cv,.string tk.text] 87)).drew:=((Below.refl _ w).alloc (Nat.le_refl _) _).drew
  change Box (w.alloc (.cells #[.int .i64 tk.kind,.string tk.name,.slice av tk.attrs.length cv,.string tk.text] 87)).drew _ _ _ at bz
  have z0:=bz.cell (i:=0) rfl
  have hD:=Lib.hid (fun W => bDoings W)
  have hlt:=h.lt
  have hw : ∀ W,Below w.heap.size w W → BS F W g mb s q:=fun W hb => h.below hb
  have hat' : ∀ W,Below w.heap.size w W → Row S W 2 (.slice av tk.attrs.length cv) tk.attrs.length (cellsA tk.attrs):=fun W hb => hat.keep (fun b hb' => hb.block b (hS b hb').1)
  replace hlt:=Lib.hid hlt
  replace hw:=Lib.hid hw
  replace hat':=Lib.hid hat'
  replace bz:=Lib.hid bz
  replace hS:=Lib.hid hS
  replace hb0:=Lib.hid hb0
  replace hkw:=Lib.hid hkw
  clear h hat
  generalize hfn : fnOf tk.kind = fv at *
  generalize hdo : isDo tk.kind = bd at *
  have hLk:=Lib.hid (fun (W : World) (b : Nat) (hd : Dng W b) => by
    have:=dng_look hd tk.kind hkw.out
    rw [hfn,hdo] at this
    exact this)
  replace hfn:=Lib.hid hfn
  replace hdo:=Lib.hid hdo
  go_enter Tryz.func205,Tryz.ntmps205
  go_wp2_with fail
  go_region_law
    (first
      | (go_simp; go_at_call 207; refine (hD.out _).mono ?_; rintro e w2 ⟨mm,rfl,hdg,hb2⟩; have hlk:=hLk.out _ _ hdg; have hb2w : Below w.heap.size w w2:=hb0.out.trans (hb2.mono (by simp)); have z0' : w2.cell? ⟨w.heap.size,0,none⟩ = some (.int .i64 tk.kind):=(bz.out.below hb2 (by simp)).cell (i:=0) rfl; replace hdg:=Lib.hid hdg; replace hb2:=Lib.hid hb2; replace hb2w:=Lib.hid hb2w))
  all_goals
    have bz2:=bz.out.below hb2.out (by simp)
    have z0:=bz2.cell (i:=0) rfl
    have z1:=bz2.cell (i:=1) rfl
    have z2:=bz2.cell (i:=2) rfl
    have z3:=bz2.cell (i:=3) rfl
    have hb:=hw.out _ hb2w.out
    have ha:=hat'.out _ hb2w.out
    have hwz:=hb2w.out.size
    clear bz2 hlk hdg hb2
    by_cases hk1 : tk.kind = 1
    · have hk:=hk1
      have hfv : fv = .func (.func 213) #[] #[]:=by rw [← hfn.out,hk]; rfl
      have hbd : bd = true:=by rw [← hdo.out,hk]; rfl
      have hst : s' = _:=hs'.out.trans (by unfold M7.step; rw [if_pos hk])
      have hC:=Lib.hid (bBegin hb hq ht (fun b h => ⟨by have:=(hS.out b h).1; omega,(hS.out b h).2⟩) ha)
      replace hst:=Lib.hid hst
      replace hk:=Lib.hid hk
      rw [hfv,hbd]
      clear hk1 hb ha
      go_wp2_with fail
      refine hC.out.mono ?_
      rintro e w3 hr
      have hr2:=(hr.start hb2w.out hlt.out).mono (q':=q + tokQ tk) (by omega)
      obtain ⟨rfl,hr3,hr4⟩:=hr2
      have hf : BStep F w g mb s' (q + tokQ tk) (.returned (.tuple #[])) w3:=by rw [hst.out]; exact ⟨rfl,hr3,hr4⟩
      replace hf:=Lib.hid hf
      clear hr hr3 hr4
      go_wp2_with fail
      go_end0
      exact hf.out
    by_cases hk2 : tk.kind = 2
    · have hk:=hk2
      have hfv : fv = .func (.func 214) #[] #[]:=by rw [← hfn.out,hk]; rfl
      have hbd : bd = true:=by rw [← hdo.out,hk]; rfl
      have hst : s' = _:=hs'.out.trans (by unfold M7.step; rw [if_neg (by rw [hk]; decide),if_pos hk])
      have hC:=Lib.hid (bEnd (va:=.slice av tk.attrs.length cv) hb hq ht ⟨_,_,_,rfl⟩)
      replace hst:=Lib.hid hst
      replace hk:=Lib.hid hk
      rw [hfv,hbd]
      clear hk1 hk2 hb ha
      go_wp2_with fail
      refine hC.out.mono ?_
      rintro e w3 hr
      have hr2:=(hr.start hb2w.out hlt.out).mono (q':=q + tokQ tk) (by omega)
      obtain ⟨rfl,hr3,hr4⟩:=hr2
      have hf : BStep F w g mb s' (q + tokQ tk) (.returned (.tuple #[])) w3:=by rw [hst.out]; exact ⟨rfl,hr3,hr4⟩
      replace hf:=Lib.hid hf
      clear hr hr3 hr4
      go_wp2_with fail
      go_end0
      exact hf.out
    by_cases hk3 : tk.kind = 3
    · have hk:=hk3
      have hfv : fv = .func (.func 215) #[] #[]:=by rw [← hfn.out,hk]; rfl
      have hbd : bd = true:=by rw [← hdo.out,hk]; rfl
      have hst : s' = _:=hs'.out.trans (by unfold M7.step; rw [if_neg (by rw [hk]; decide),if_neg (by rw [hk]; decide),if_pos hk])
      have hC:=Lib.hid (bChars (va:=.slice av tk.attrs.length cv) hb hq ht ⟨_,_,_,rfl⟩)
      replace hst:=Lib.hid hst
      replace hk:=Lib.hid hk
      rw [hfv,hbd]
      clear hk1 hk2 hk3 hb ha
      go_wp2_with fail
      refine hC.out.mono ?_
      rintro e w3 hr
      have hr2:=(hr.start hb2w.out hlt.out).mono (q':=q + tokQ tk) (by omega)
      obtain ⟨rfl,hr3,hr4⟩:=hr2
      have hf : BStep F w g mb s' (q + tokQ tk) (.returned (.tuple #[])) w3:=by rw [hst.out]; exact ⟨rfl,hr3,hr4⟩
      replace hf:=Lib.hid hf
      clear hr hr3 hr4
      go_wp2_with fail
      go_end0
      exact hf.out
    by_cases hk4 : tk.kind = 4
    · have hk:=hk4
      have hfv : fv = .func (.func 216) #[] #[]:=by rw [← hfn.out,hk]; rfl
      have hbd : bd = true:=by rw [← hdo.out,hk]; rfl
      have hst : s' = _:=hs'.out.trans (by unfold M7.step; rw [if_neg (by rw [hk]; decide),if_neg (by rw [hk]; decide),if_neg (by rw [hk]; decide),if_pos hk])
      have hC:=Lib.hid (bRemark (t:=tk) (va:=.slice av tk.attrs.length cv) hb hq ⟨_,_,_,rfl⟩)
      replace hst:=Lib.hid hst
      replace hk:=Lib.hid hk
      rw [hfv,hbd]
      clear hk1 hk2 hk3 hk4 hb ha
      go_wp2_with fail
      refine hC.out.mono ?_
      rintro e w3 hr
      have hr2:=(hr.start hb2w.out hlt.out).mono (q':=q + tokQ tk) (by omega)
      obtain ⟨rfl,hr3,hr4⟩:=hr2
      have hf : BStep F w g mb s' (q + tokQ tk) (.returned (.tuple #[])) w3:=by rw [hst.out]; exact ⟨rfl,hr3,hr4⟩
      replace hf:=Lib.hid hf
      clear hr hr3 hr4
      go_wp2_with fail
      go_end0
      exact hf.out
    · have hfv : bd = false:=by rw [← hdo.out]; unfold isDo; simp [hk1,hk2,hk3,hk4]
      have hst : s' = s:=hs'.out.trans (by unfold M7.step; rw [if_neg hk1,if_neg hk2,if_neg hk3,if_neg hk4])
      rw [hfv]
      obtain ⟨vo,vt,pt,fs,tx,n,D,h1,h2⟩:=hb.mono (q':=q + tokQ tk) (by omega)
      have r : Reach F w w2 g mb vo vt pt fs tx n D:=Reach.start ⟨h1.same_grw.1,Out.refl _ _⟩ hb2w.out hlt.out
      have hf : BStep F w g mb s' (q + tokQ tk) (.returned (.tuple #[])) w2:=by rw [hst]; exact ⟨rfl,⟨vo,vt,pt,fs,tx,n,D,r.1,h2⟩,r.2⟩
      replace hf:=Lib.hid hf
      clear h1 h2 r hb ha hst
      go_wp2_with fail
      go_end0
      exact hf.out
end Go.Proofs.YteefodibpjgicaaGreat

namespace Go.Proofs.YteefodibpjgicaaGreat
open Go.RowKit Go.Shelf
attribute [local go_sem] Oper.semAt_some
theorem own_isCells {w : World} {B : Nat} {e : TypeId} {k n : Nat} {v : Value} {xs : List Value} (h : w.ownsRow B e k v n xs) {b : Nat} (hb : b ∈ v.ownBlock.toList) : ∃ cs t,w.heap[b]? = some (.cells cs t (0,0)):=by
  rcases h.2 with ⟨rfl,_⟩ | ⟨g,cap,cur,rfl,_,hg,_⟩
  · cases hb
  · simp [Value.ownBlock] at hb; subst hb; exact ⟨_,_,hg⟩
theorem OwnC.isCells {w : World} (l : List Nd) : ∀ (xs : List Value) (F : List Nat),OwnC w xs l F → ∀ b ∈ F,∃ cs t,w.heap[b]? = some (.cells cs t (0,0)):=by
  induction l using Nd.ind with
  | h0 => intro xs F h; rw [OwnC] at h; rw [h.2]; intro b hb; cases hb
  | h1 k n ats t ks r ih1 ih2 =>
    intro xs F h b hb
    obtain ⟨va,vk,zs,ys,F1,F2,rfl,h2,h3,rfl,h5,h6⟩:=OwnC.cons_iff.1 h
    rcases List.mem_append.1 hb with hb | hb
    · rcases List.mem_append.1 hb with hb | hb
      · exact own_isCells h2 hb
      · rcases List.mem_append.1 hb with hb | hb
        · exact own_isCells h3 hb
        · exact ih1 _ _ h5 b hb
    · exact ih2 _ _ h6 b hb
end Go.Proofs.YteefodibpjgicaaGreat

namespace Go.Proofs.YteefodibpjgicaaGreat
open Go.RowKit Go.Shelf
theorem wpIn_region_known {F : Fence} {k : Nat} {id n : Nat} {P : Program} {ops : Array Oper} {Q : Exit → Act → World → Prop} {a : Act} {w : World} (Vs : List (Option Value)) (A : (Nat → Value) → Act) (I : (Nat → Bool) → (Nat → Value) → World → Prop) (t0 : Nat → Value)
    (hm : P.follows .mixedOrders = true) (hn : ops.size = n) (hl : Vs.length = n) (hord : ordB .any ops = true) (ha : a = A t0) (h0 : I (fun i => decide (n ≤ i)) t0 w.drew)
    (hstep : ∀ i,i < n → ∀ (f : Nat → Bool) (t : Nat → Value) (W : World),f i = false → (∀ j,Region.waitsFor .any ops i j = true → f j = true) → (∀ i j,Region.waitsFor .any ops i j = true → f i = true → f j = true) → Kn Vs f t → I f t W →
      wpOpIn F k P ops Q i (fun a' W' => ∃ v,a' = A (updT t i v) ∧ Kn Vs (updF f i) (updT t i v) ∧ I (updF f i) (updT t i v) W') (A t) W)
    (hdone : ∀ (f : Nat → Bool) (t : Nat → Value) (W : World),(∀ i,i < n → f i = true) → Kn Vs f t → I f t W → Q .normal (A t) W) :
    (Code.region id ops true).wpIn F k P Q a w:=by
  subst hn
  refine wpIn_region_any hm ?_
  change wpAnyIn _ _ _ _ _ _ _ _ _ w.drew
  refine wpAnyIn_inv (fun f ac W => ∃ t,ac = A t ∧ Kn Vs f t ∧ I f t W ∧ ∀ i j,Region.waitsFor .any ops i j = true → f i = true → f j = true) hord ?_ ?_ _ _ _ _ (by simp) (leftOf_none _) ⟨t0,ha,Kn.none Vs _ hl t0,?_,?_⟩
  · rintro i hi f ac W hfi hwt ⟨t,rfl,hk,hI,hc⟩
    refine wpOpIn_mono ?_ (hstep i hi f t W hfi hwt hc hk hI)
    rintro a' W' ⟨v,h1,h2,h3⟩
    refine ⟨_,h1,h2,h3,fun m j hw hk' => ?_⟩
    by_cases e : j = i
    · rw [e]; simp [updF]
    · rw [updF_ne _ e]
      by_cases e2 : m = i
      · rw [e2] at hw; exact hwt j hw
      · rw [updF_ne _ e2] at hk'; exact hc m j hw hk'
  · rintro f ac W hall ⟨t,rfl,hk,hI,_⟩
    exact hdone f t W hall hk hI
  · rw [show flags (Array.replicate ops.size false) = fun i => decide (ops.size ≤ i) from funext (flags_none _)]
    exact h0
  · intro i j hw hi
    rw [flags_none] at hi
    have hi : ops.size ≤ i:=by simpa using hi
    rw [waits_none hi] at hw
    cases hw
theorem wpOpIn_append_run {F : Fence} {k : Nat} {P : Program} {ops : Array Oper} {Q : Exit → Act → World → Prop} {K : Act → World → Prop} {o : Oper} {a : Act} {w w' : World} {i : Nat} (hi : ops[i]? = some o) (hgd : o.guard = none) (s x : Operand) (t : TypeId) (ho : o.op = .call { callee:=.builtin .append,args:=#[s,x],argTypes:=#[t,t] })
    (v xv r : Value) (hs : a.eval s = v) (hx : a.eval x = xv) (hr : (Builtin.append_ #[t,t] o.type #[v,xv]).run P w = .ok r w') (h : K (a.put o.dst r) w') : wpOpIn F k P ops Q i K a w:=by
  refine wpOpIn_step hi (fun K' hK => ?_)
  refine Eq.mpr (if_pos ?hc) ?_
  case hc => simp [Region.wanted,hgd]
  unfold Oper.wpIn
  refine ⟨by simp [Oper.about,ho,resolve,Target.leads,Sem.run_pure],?_⟩
  rw [Oper.semAt_plain _ _ _ (by intro c hc; rw [ho] at hc; cases hc)]
  simp only [execOp,ho,resolve,invoke,builtin,Sem.run_bind,Sem.run_pure,Result.andThen_ok,List.map_toArray,List.map_cons,List.map_nil,hs,hx,hr]
  exact hK _ _ h
end Go.Proofs.YteefodibpjgicaaGreat

namespace Go.Proofs.YteefodibpjgicaaGreat
open Go.RowKit Go.Shelf
attribute [local go_sem] Oper.semAt_some
def eV (f : FV) : Value:=.agg #[.int .i64 f.x.kind,.string f.x.name,f.va,.string f.x.text,f.vk,.int .i64 (f.nx : Int)]
structure EV (S : Nat → Prop) (w0 : World) where
  f : FV
  ix : Nat
  rep : RepV S w0 f.x f.va f.vk
  few : M3.weight f.x.kids ≤ 1000000 ∧ f.x.attrs.length ≤ 1000000
def EV.args {S : Nat → Prop} {w0 : World} (t : EV S w0) : Array Value:=#[.int .i64 (t.ix : Int),eV t.f]
theorem EV.of {S : Nat → Prop} {w0 : World} (k : Nat) (fs : List FV) (h : ∀ f ∈ fs,RepV S w0 f.x f.va f.vk ∧ M3.weight f.x.kids ≤ 1000000 ∧ f.x.attrs.length ≤ 1000000) : ∃ T : List (EV S w0),T.map EV.f = fs ∧ ∀ i (hi : i < T.length),T[i].ix = k + i:=by
  induction fs generalizing k with
  | nil => exact ⟨[],rfl,fun i hi => by simp at hi⟩
  | cons f r ih =>
    obtain ⟨T,h1,h2⟩:=ih (k + 1) (fun g hg => h g (List.mem_cons_of_mem _ hg))
    obtain ⟨q1,q2⟩:=h f (List.mem_cons_self ..)
    refine ⟨⟨f,k,q1,q2⟩ :: T,by rw [List.map_cons,h1],fun i hi => ?_⟩
    cases i with
    | zero => rfl
    | succ i =>
      have:=h2 i (by simpa using hi)
      simp only [List.getElem_cons_succ]
      omega
def KpP (P : Nat → Prop) (W W' : World) : Prop:=∀ b,P b → W'.heap[b]? = W.heap[b]?
theorem KpP.trans {P : Nat → Prop} {A B C : World} (h : KpP P A B) (k : KpP P B C) : KpP P A C:=fun b hb => (k b hb).trans (h b hb)
theorem kpP_b {P : Nat → Prop} {w : World} (hP : ∀ b,P b → b < w.heap.size) (W : World) (l : Nat) (o o' : Obj) (hl : w.heap.size ≤ l) (h : W.heap[l]? = some o) (_hc : o.isCells = false) (_hw : o.isWalk = false) : KpP P W (W.putObj l o'):=fun b hb => by
  have hbl:=hP b hb
  by_cases e : b < W.heap.size
  · exact (grownBy_putObj' W l o').block b e (fun e2 => by cases e2; omega)
  · have:=(Array.getElem?_eq_some_iff.1 h).1; omega
theorem back_step {α : Type} (T : List α) (j : Nat) (h : j < T.length) : (T.drop j).reverse = (T.drop (j + 1)).reverse ++ [T[j]]:=by
  rw [List.drop_eq_getElem_cons h,List.reverse_cons]
theorem back_pre {α : Type} (T : List α) (j : Nat) : (T.drop j).reverse <+: T.reverse:=by
  refine ⟨(T.take j).reverse,?_⟩
  rw [← List.reverse_append,List.take_append_drop]
set_option maxRecDepth 100000 in
set_option maxHeartbeats 4000000 in
theorem bwd1 (F : Fence) (n : Nat) (h5 : F.fn 217) (hro : F.round = none) (hn : 1 ≤ n) (S : Nat → Prop) (w0 : World) (l0 Bt go cap : Nat) (P : Nat → Prop) (T : List (EV S w0)) (J Jx : List (EV S w0) → World → Prop)
    (hY : ∀ pre x W,J pre W → pre.length < T.length → YieldAt F (n - 1) Tryz.prog l0 x.args W fun e W' =>
      (e = .returned (.bool true) ∧ J (pre ++ [x]) W' ∧ KpP P W W') ∨ (e = .returned (.bool false) ∧ Jx (pre ++ [x]) W'))
    (W : World) (hix : ∀ i (hi : i < T.length),T[i].ix = i) (hPb : P Bt) (hPg : P go) (hT0 : 0 < T.length) (hT6 : T.length ≤ 1000000) (hBt : W.cell? ⟨Bt,0,none⟩ = some (.slice (some ⟨go,0,none⟩) T.length cap)) (hc : ∀ j u,(cellsF (T.map EV.f))[j]? = some u → W.cell? ⟨go,j,none⟩ = some u) (h0 : J [] W) :
    CallsIn F n Tryz.prog 217 #[.func (.yield l0) #[] #[],.pointer (some ⟨Bt,0,none⟩)] W fun e W' => (∃ v,e = .returned v) ∧
      ((∃ ys,ys = T.reverse ∧ J ys W') ∨ (∃ pre,pre <+: T.reverse ∧ Jx pre W')):=by
  refine callsIn_of_wp Tryz.func217 rfl h5 ?_ hro
  simp only [Tryz.ntmps217,List.size_toArray,List.length_cons,List.length_nil,Nat.reduceAdd,Nat.reduceSub,Array.replicate_succ,Array.replicate_zero,List.push_toArray,List.append_toArray,List.nil_append,List.cons_append]
  have hj0 : J (T.drop T.length).reverse W:=by rw [List.drop_length]; exact h0
  replace hY:=Lib.hid hY
  replace hix:=Lib.hid hix
  replace hj0:=Lib.hid hj0
  replace hc:=Lib.hid hc
  clear h0
  gi_wp2
  gi_loopw [3] (fun u3 wr => ∃ k : Nat,k ≤ T.length ∧ u3 = .int .i64 ((k : Int) - 1) ∧ J (T.drop k).reverse wr ∧ KpP P W wr) (fun u3 _ => (intOf u3 + 1).toNat)
  case atStart => exact ⟨T.length,Nat.le_refl _,rfl,hj0.out,fun _ _ => rfl⟩
  case round =>
    obtain ⟨k,hk,rfl,hJs,hkp⟩:=hrel
    have cB : wr.cell? ⟨Bt,0,none⟩ = some (.slice (some ⟨go,0,none⟩) T.length cap):=(World.cell?_of_block (a:=⟨Bt,0,none⟩) (hkp Bt hPb)).trans hBt
    cases k with
    | zero =>
      rw [List.drop_zero] at hJs
      replace hJs:=Lib.hid hJs
      gi_wp2
      go_end0
      exact ⟨⟨_,rfl⟩,.inl ⟨_,rfl,hJs.out⟩⟩
    | succ j =>
      have hcx : ∀ i u,(cellsF (T.map EV.f))[i]? = some u → wr.cell? ⟨go,i,none⟩ = some u:=fun i u hu => (World.cell?_of_block (a:=⟨go,i,none⟩) (hkp go hPg)).trans (hc.out i u hu)
      have hfs : ∀ i u,T[j].f.cells[i]? = some u → i < 6 → (cellsF (T.map EV.f))[j * 6 + i]? = some u:=by
        intro i u hu hi6
        have e : T.map EV.f = (T.take j).map EV.f ++ T[j].f :: (T.drop (j + 1)).map EV.f:=by
          rw [← List.map_cons,← List.drop_eq_getElem_cons (by omega),← List.map_append,List.take_append_drop]
        rw [e,cellsF_append,show T[j].f :: (T.drop (j + 1)).map EV.f = [T[j].f] ++ (T.drop (j + 1)).map EV.f from rfl,cellsF_append,cellsF_one]
        have hl : (cellsF ((T.take j).map EV.f)).length = j * 6:=by rw [cellsF_len]; simp; omega
        rw [List.getElem?_append_right (by omega),hl,show j * 6 + i - j * 6 = i by omega,List.getElem?_append_left (by simp [FV.cells]; omega)]
        exact hu
      have e0:=hcx _ _ (hfs 0 _ rfl (by decide))
      have e1:=hcx _ _ (hfs 1 _ rfl (by decide))
      have e2:=hcx _ _ (hfs 2 _ rfl (by decide))
      have e3:=hcx _ _ (hfs 3 _ rfl (by decide))
      have e4:=hcx _ _ (hfs 4 _ rfl (by decide))
      have e5:=hcx _ _ (hfs 5 _ rfl (by decide))
      simp only [Nat.add_zero] at e0
      have hxi:=hix.out j (by omega)
      obtain ⟨fn,tmps,assign,body,hy,hR⟩:=hY.out _ T[j] wr hJs (by simp; omega)
      have hst:=back_step T j (by omega)
      have ha : T[j].args = #[.int .i64 (j : Int),.agg #[.int .i64 T[j].f.x.kind,.string T[j].f.x.name,T[j].f.va,.string T[j].f.x.text,T[j].f.vk,.int .i64 (T[j].f.nx : Int)]]:=by unfold EV.args eV; rw [hxi]
      rw [ha] at hy
      have hj1 : (0 : Int) ≤ (j : Int):=by omega
      have hj2 : (j : Int) < (T.length : Int):=by omega
      replace hJs:=Lib.hid hJs
      replace hkp:=Lib.hid hkp
      replace hst:=Lib.hid hst
      replace hcx:=Lib.hid hcx
      replace hfs:=Lib.hid hfs
      replace ha:=Lib.hid ha
      gi_wp2
      refine hR.mono ?_
      rintro e W3 (⟨rfl,hJ3,hk3⟩ | ⟨rfl,hJx3⟩)
      · rw [← hst.out] at hJ3
        have hkk:=hkp.out.trans hk3
        replace hJ3:=Lib.hid hJ3
        replace hkk:=Lib.hid hkk
        gi_wp2
        go_roundw
        case rel => exact ⟨j,by omega,by go_num,hJ3.out,hkk.out⟩
        case measure => simp [intOf]
      · rw [← hst.out] at hJx3
        replace hJx3:=Lib.hid hJx3
        gi_wp2
        refine bodyPost_ret (results_none rfl _ _ _) rfl ?_
        exact ⟨⟨_,rfl⟩,.inr ⟨_,back_pre T j,hJx3.out⟩⟩
set_option maxHeartbeats 1000000 in
theorem bwd (F : Fence) (n : Nat) (h4 : F.fn 210) (hro : F.round = none) (a : Option Addr) (len cap : Nat) (w : World) :
    CallsIn F n Tryz.prog 210 #[.slice a len cap] w fun e w' => e = .returned (.func (.func 217) #[] #[.pointer (some ⟨w.heap.size,0,none⟩)]) ∧ w.alloc (.cells #[.slice a len cap] 190) = w':=by
  refine callsIn_of_wp Tryz.func210 rfl h4 ?_ hro
  simp only [Tryz.ntmps210,List.size_toArray,List.length_cons,List.length_nil,Nat.reduceAdd,Nat.reduceSub,Array.replicate_succ,Array.replicate_zero,List.push_toArray,List.append_toArray,List.nil_append,List.cons_append]
  gi_wp2
  go_ret
  exact ⟨rfl,rfl⟩
theorem bwdStops (F : Fence) (n : Nat) (h5 : F.fn 217) (hro : F.round = none) (hn : 1 ≤ n) (S : Nat → Prop) (w0 : World) (Bt go cap : Nat) (P : Nat → Prop) (T : List (EV S w0)) (w : World)
    (hix : ∀ i (hi : i < T.length),T[i].ix = i) (hPb : P Bt) (hPg : P go) (hPl : ∀ b,P b → b < w.heap.size) (hT0 : 0 < T.length) (hT6 : T.length ≤ 1000000) (hBt : w.cell? ⟨Bt,0,none⟩ = some (.slice (some ⟨go,0,none⟩) T.length cap)) (hc : ∀ j u,(cellsF (T.map EV.f))[j]? = some u → w.cell? ⟨go,j,none⟩ = some u) :
    SeqStopsK F n Tryz.prog 217 #[.pointer (some ⟨Bt,0,none⟩)] (EV.args (S:=S) (w0:=w0)) (KpP P) (fun ys => ys = T.reverse) (fun pre => pre <+: T.reverse) T.length w:=fun l0 J Jx W hW _ _ hY h0 =>
  bwd1 F n h5 hro hn S w0 l0 Bt go cap P T J Jx hY W hix hPb hPg hT0 hT6 ((hW.cell (p:=⟨Bt,0,none⟩) (hPl _ hPb)).trans hBt) (fun j u hu => (hW.cell (p:=⟨go,j,none⟩) (hPl _ hPg)).trans (hc j u hu)) h0
end Go.Proofs.YteefodibpjgicaaGreat
