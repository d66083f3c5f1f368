/- Texts joined: Ref07b. -/
import Derived.Test.YteefodibpjgicaaGreatA25
import Derived.Test.YteefodibpjgicaaGreatA31
namespace Go.Proofs.YteefodibpjgicaaGreat
open Go.RowKit
theorem cellsV_ones {L : List NV} (h : ∀ b ∈ L,b.ok) : ∀ u ∈ cellsV L,u.oneCell' = true:=by
  intro u hu
  obtain ⟨b,hb,hu⟩:=List.mem_flatMap.1 hu
  obtain ⟨⟨a1,c1,h1⟩,a2,c2,h2⟩:=h b hb
  simp only [NV.cells,h1,h2,List.mem_cons,List.not_mem_nil,or_false] at hu
  rcases hu with rfl | rfl | rfl | rfl | rfl <;> rfl
theorem wpList_spread {P : Program} {ops : Array Oper} {rest : List Oper} {o : Oper} {a : Act} {Q : Exit → Act → World → Prop} (w1 : World) (k : Nat) (S : Nat → Prop) (hgd : o.guard = none) (s y : Operand) (t e : TypeId)
    (ho : o.op = .call { callee:=.builtin .append,args:=#[s,y],argTypes:=#[t,t] }) (base : Nat) {z : Value} {bytes : Nat} (ht : P.underlying t = some (.slice e))
    (hinfo : (P.info? e).map (fun i => (i.zero,i.size,i.bytes)) = some (some z,k,bytes)) (hz : z.cells.size = k) (hk : 0 < k)
    (v : Value) (n : Nat) (xs : List Value) (hs : a.eval s = v) (hown : w1.ownsRow base e k v n xs) (yv : Value) (m : Nat) (ys : List Value) (hy : a.eval y = yv) (hx : Row S w1 k yv m ys) (h1 : ∀ u ∈ ys,u.oneCell' = true)
    (h63 : n + m ≤ 9223372036854775807) (hbytes : (n + m) * bytes ≤ 140737488355328) (hbase : base ≤ w1.heap.size)
    (h : ∀ v' w2,w2.ownsRow base e k v' (n + m) (xs ++ ys) → w1.grownBy w2 v.ownBlock → wpList P ops Q rest (a.put o.dst v') w2) : wpList P ops Q (o :: rest) a w1:=by
  obtain ⟨i,hi,hz0,hz1,hz2⟩:=info_parts hinfo
  obtain ⟨hl,ad,cap,rfl,h2,h3,h4,h5⟩:=hx
  cases ad with
  | none =>
    have h6:=h4 rfl
    obtain rfl : m = 0:=by omega
    have h7 : ys = []:=List.eq_nil_of_length_eq_zero (by omega)
    subst h7
    subst h6
    refine wpList_append_own_none hgd s y t ho base e i k ht hi v n xs hs hown hy ?_
    exact h v w1 (by simpa using hown) ⟨rfl,rfl,rfl,Nat.le_refl _,fun _ _ _ => rfl⟩
  | some ad =>
    refine wpList_append_own _ hgd s y t ho base e i z k bytes ht hi hz0 hz1 hz2 hz hk v n xs hs hown ad m cap ys hy hl ?_ h1 (by unfold maxLen; omega) hbytes hbase ?_
    · intro j u hj
      have hj':=(List.getElem?_eq_some_iff.1 hj).1
      have hm : 0 < m:=by
        rcases Nat.eq_zero_or_pos m with e | e
        · subst e; omega
        · exact e
      obtain ⟨b,off,h6,_,h8⟩:=h5 hm
      cases h6
      rw [add_plain']
      exact h8 j u hj
    · intro v' w2 h8 h9 _
      exact h v' w2 h8 h9
theorem setKids7 (A : List NV) (b : NV) (kv : Value) (ks : List Nd) (i : Nat) (h : i = A.length) : (cellsV (A ++ [b])).set (i * 5 + 4) kv = cellsV (A ++ [(⟨M7.wk b.x ks,b.va,kv⟩ : NV)]):=by
  subst h
  rw [cellsV_snoc,cellsV_snoc]
  have h5 : (cellsV A).length = A.length * 5:=cellsV_len A
  rw [List.set_append_right _ _ (by omega),h5,show A.length * 5 + 4 - A.length * 5 = 4 by omega]
  obtain ⟨x,va,vk⟩:=b
  cases x
  rfl
def StJ (S : Nat → Prop) (w0 : World) (g off c n : Nat) (l : List Nd) (f : Nat → Bool) (t : Nat → Value) (W : World) : Prop :=
  (f n = false → Below w0.heap.size w0 W ∧ (f c = true → RepN (fun b => S b ∨ (w0.heap.size ≤ b ∧ b < W.heap.size)) W (t c) l)) ∧
  (f n = true → (∀ j,j < c + 1 → f j = true) ∧ ∃ W0,Below w0.heap.size w0 W0 ∧ RepN (fun b => S b ∨ (w0.heap.size ≤ b ∧ b < W0.heap.size)) W0 (t c) l ∧ W = W0.setCell ⟨g,off,none⟩ (t c))
section
variable {S : Nat → Prop} {w0 W : World} {g off c n : Nat} {l : List Nd} {f : Nat → Bool} {t : Nat → Value}
theorem StJ.start (S : Nat → Prop) (w0 : World) (g off c n : Nat) (l : List Nd) (t : Nat → Value) (hc : c < n) : StJ S w0 g off c n l (fun j => decide (n + 1 ≤ j)) t w0.drew :=
  ⟨fun _ => ⟨(Below.refl _ w0).drew,fun h => by simp at h; omega⟩,fun h => by simp at h; omega⟩
theorem StJ.notlast (h : StJ S w0 g off c n l f t W) {j : Nat} (hj : j < c + 1 ∨ j = n) (hf : f j = false) : f n = false:=by
  cases h10 : f n
  · rfl
  · rcases hj with hl | rfl
    · have:=(h.2 h10).1 j hl
      rw [hf] at this
      cases this
    · rw [h10] at hf
      cases hf
theorem StJ.same (h : StJ S w0 g off c n l f t W) (j : Nat) (v : Value) (h1 : j ≠ c) (h2 : j ≠ n) : StJ S w0 g off c n l (updF f j) (updT t j v) W:=by
  refine ⟨fun e => ?_,fun e => ?_⟩
  · rw [updF_ne f (Ne.symm h2)] at e
    rw [updF_ne f (Ne.symm h1),updT_ne _ _ (Ne.symm h1)]
    exact h.1 e
  · rw [updF_ne f (Ne.symm h2)] at e
    obtain ⟨e1,e2⟩:=h.2 e
    rw [updT_ne _ _ (Ne.symm h1)]
    exact ⟨fun k hk => by unfold updF; split; rfl; exact e1 k hk,e2⟩
theorem StJ.call (h : StJ S w0 g off c n l f t W) (hn : f n = false) (hc : c ≠ n) {W' : World} {v : Value} (hv : RepN (fun b => S b ∨ (W.heap.size ≤ b ∧ b < W'.heap.size)) W' v l) (hb : Below W.heap.size W W') : StJ S w0 g off c n l (updF f c) (updT t c v) W':=by
  obtain ⟨q1,_⟩:=h.1 hn
  have hz:=q1.size
  refine ⟨fun _ => ⟨bt q1 hb,fun _ => ?_⟩,fun e => ?_⟩
  · rw [updT_same]
    refine hv.mono (fun b hb' => ?_)
    rcases hb' with hb' | hb'
    · exact Or.inl hb'
    · exact Or.inr ⟨by omega,hb'.2⟩
  · rw [updF_ne f (Ne.symm hc),hn] at e
    cases e
theorem StJ.put (h : StJ S w0 g off c n l f t W) (hn : f n = false) (hc : c < n) (hall : ∀ j,j < c + 1 → f j = true) (v : Value) : StJ S w0 g off c n l (updF f n) (updT t n v) (W.setCell ⟨g,off,none⟩ (t c)):=by
  obtain ⟨q1,q2⟩:=h.1 hn
  refine ⟨fun e => by simp at e,fun _ => ⟨fun k hk => by unfold updF; split; rfl; exact hall k hk,W,q1,?_,?_⟩⟩
  · rw [updT_ne _ _ (by omega)]; exact q2 (hall c (by omega))
  · rw [updT_ne _ _ (by omega)]
end
theorem own_cap7 {w : World} {B g cap n : Nat} {xs : List Value} (h : w.ownsRow B 41 5 (.slice (some ⟨g,0,none⟩) n cap) n xs) : (cap : Int) ≤ 9223372036854775807 ∧ (n : Int) ≤ (cap : Int):=by
  rcases h.2 with ⟨h',_⟩ | ⟨g',cap',cur,h',_,_,q1,q2,_⟩
  · cases h'
  · cases h'
    unfold maxLen at q2
    omega
theorem own_at7 {w : World} {B g n : Nat} {cap : Nat} {L : List NV} (h : w.ownsRow B 41 5 (.slice (some ⟨g,0,none⟩) n cap) n (cellsV L)) (i : Nat) (hi : i < L.length) :
    w.cell? ⟨g,i * 5,none⟩ = some (.int .i64 L[i].x.kind) ∧ w.cell? ⟨g,i * 5 + 4,none⟩ = some L[i].vk ∧ w.frozen? ⟨g,i * 5 + 4,none⟩ = false:=by
  obtain ⟨c0,c1,c2,c3,c4⟩:=cellsV_at L i hi
  have hc:=fun j u hu => h.cells (g:=g) rfl j u hu
  refine ⟨by have:=hc _ _ c0; rwa [add_plain',Nat.zero_add] at this,by have:=hc _ _ c4; rwa [add_plain',Nat.zero_add] at this,?_⟩
  rcases h.2 with ⟨h',_⟩ | ⟨g',cap',cur,h',_,hg,_⟩
  · cases h'
  · cases h'
    simp [World.frozen?,hg]
def ShrP (S : Nat → Prop) (l : List Nd) (w : World) (e : Ending) (w' : World) : Prop:=∃ v',e = .returned v' ∧ RepN (fun b => S b ∨ (w.heap.size ≤ b ∧ b < w'.heap.size)) w' v' l ∧ Below w.heap.size w w'
theorem ShrP.of_row {S : Nat → Prop} {w w' : World} {v' : Value} {L : List NV} (hS : ∀ b,S b → b < w.heap.size) (hown : w'.ownsRow w.heap.size 41 5 v' L.length (cellsV L)) (hb : Below w.heap.size w w') (hL : ∀ b ∈ L,RepV S w b.x b.va b.vk) : RepN (fun b => S b ∨ (w.heap.size ≤ b ∧ b < w'.heap.size)) w' v' (L.map NV.x) :=
  ⟨cellsV L,by rw [List.length_map]; exact Row.own hown (fun g hg => Or.inr (hown.lt g hg)),RepC.of_nv (fun b hb' => ((hL b hb').below hS hb).mono (fun c hc => Or.inl hc))⟩
theorem push_cat {o : List Nd} {x y : Nd} (hx : M3.isText x = true) (hy : M3.isText y = true) : M3.push (o ++ [y]) x = o ++ [M3.withText y (M3.cat y.text x.text)]:=by
  cases h : M3.bareB x
  · rw [M3.push_snoc h,hx,hy,Bool.and_self,if_pos rfl]
  · rw [M3.push_bare h]
    have h2:=(M3.bareB_iff.1 h).2
    have h3 : x.text.data.toList = []:=M3.nilB_iff.1 h2
    cases y
    unfold M3.withText M3.cat
    rw [h3,List.append_nil]
    rfl
theorem push_end {L : List Nd} {x : Nd} (h : M3.bareB x = false) (hL : M3.isText x = false ∨ ∀ o y,L = o ++ [y] → M3.isText y = false) : M3.push L x = L ++ [x]:=by
  rcases List.eq_nil_or_concat L with rfl | ⟨o,y,rfl⟩
  · rw [M3.push_none h]; rfl
  · rw [List.concat_eq_append] at *
    rw [M3.push_snoc h]
    rcases hL with hL | hL
    · rw [hL,Bool.false_and,if_neg Bool.false_ne_true]
    · rw [hL o y rfl,Bool.and_false,if_neg Bool.false_ne_true]
set_option maxHeartbeats 16000000 in
set_option maxRecDepth 100000 in
theorem ref07put (d : Nat) : ∀ (S : Nat → Prop) (v vp : Value) (L : List Nd) (x : Nd) (va vk : Value) (w : World),M7.okD d L → d ≤ 1000000 → M3.weight L ≤ 1000000 → dtN L + x.text.size ≤ 1073741824 → (∀ b,S b → b < w.heap.size) → RepN S w v L → Ints S w vp (M7.pathN d L) → RepV S w x va vk →
    Calls Tryz.prog 83 #[v,vp,x.val va vk] w (ShrP S (M7.putN d x L) w):=by
  induction d with
  | zero =>
    intro S v vp L x va vk w _ _ hw ht hS hr hp hx
    obtain ⟨xs,hrow,hrc⟩:=hr
    obtain ⟨M,rfl,rfl,hM⟩:=RepC.nv _ _ hrc
    rw [List.length_map] at hrow
    have hll:=M3.length_le_weight (M.map NV.x)
    rw [List.length_map] at hll
    have htx:=txt_dt (M.map NV.x)
    show Calls _ _ _ _ (ShrP S (M3.push (M.map NV.x) x) w)
    obtain ⟨R,hR⟩ : ∃ R,Hid (R = M3.push (M.map NV.x) x):=⟨_,rfl⟩
    rw [← hR.out]
    obtain ⟨a,cap,hv⟩:=hrow.slice
    subst hv
    obtain ⟨ap,cp,hvp⟩:=Row.slice hp
    subst hvp
    obtain ⟨k,n,ats,tx,ks⟩:=x
    obtain ⟨a1,e1,hva⟩:=hx.at_.slice
    obtain ⟨a2,e2,hvk⟩:=hx.kids.slice
    subst hva
    subst hvk
    simp only [Nd.text] at ht
    show Calls Tryz.prog 83 #[.slice a M.length cap,.slice ap 0 cp,.agg #[.int .i64 k,.string n,.slice a1 ats.length e1,.string tx,.slice a2 ks.length e2]] w _
    have h63 : 0 + M.length ≤ 9223372036854775807:=by omega
    have hby : (0 + M.length) * 88 ≤ 140737488355328:=by omega
    have h63' : M.length + 1 ≤ 9223372036854775807:=by omega
    have hby' : (M.length + 1) * 88 ≤ 140737488355328:=by omega
    have hones:=cellsV_ones (fun b hb => (hM b hb).ok)
    obtain ⟨wo,rfl⟩ : ∃ wo : World,wo = w:=⟨_,rfl⟩
    have bx:=Box.new wo 41 [.int .i64 k,.string n,.slice a1 ats.length e1,.string tx,.slice a2 ks.length e2]
    have hb0 : Below wo.heap.size wo (wo.alloc (.cells #[.int .i64 k,.string n,.slice a1 ats.length e1,.string tx,.slice a2 ks.length e2] 41)):=(Below.refl _ wo).alloc (Nat.le_refl _) _
    have hsz : wo.heap.size + 1 = (wo.alloc (.cells #[.int .i64 k,.string n,.slice a1 ats.length e1,.string tx,.slice a2 ks.length e2] 41)).heap.size:=by simp
    have hrow0 : Row S (wo.alloc (.cells #[.int .i64 k,.string n,.slice a1 ats.length e1,.string tx,.slice a2 ks.length e2] 41)) 5 (.slice a M.length cap) M.length (cellsV M):=Row.keep hrow (fun b h => hb0.block b (hS b h))
    have hl0 : wo.heap.size ≤ (wo.alloc (.cells #[.int .i64 k,.string n,.slice a1 ats.length e1,.string tx,.slice a2 ks.length e2] 41)).heap.size:=by omega
    have hnil : (wo.alloc (.cells #[.int .i64 k,.string n,.slice a1 ats.length e1,.string tx,.slice a2 ks.length e2] 41)).ownsRow wo.heap.size 41 5 (.slice none 0 0) 0 []:=World.ownsRow_nil _ _ _ _
    have hlt0:=Lib.hid (show wo.heap.size < (wo.alloc (.cells #[.int .i64 k,.string n,.slice a1 ats.length e1,.string tx,.slice a2 ks.length e2] 41)).heap.size from by rw [← hsz]; exact Nat.lt_succ_self _)
    clear hsz
    have hxr:=Lib.hid hx
    clear hx hrc
    cases hk2 : (k == 2)
    · -- no text
      have hR2 : Hid (R = (M ++ [(⟨.mk k n ats tx ks,.slice a1 ats.length e1,.slice a2 ks.length e2⟩ : NV)]).map NV.x):=by
        show _ = _
        rw [hR.out,push_end (x:=.mk k n ats tx ks) (by unfold M3.bareB M3.isText; show ((k == 2) && _) = false; rw [hk2]; rfl) (Or.inl hk2),List.map_append]
        rfl
      clear hR
      go_enter Tryz.func83,Tryz.ntmps83
      go_wp2_with (first
               | (at_builtin
                  refine wpList_spread (wo.alloc (.cells #[.int .i64 k,.string n,.slice a1 ats.length e1,.string tx,.slice a2 ks.length e2] 41)) 5 S rfl _ _ 25 41 rfl wo.heap.size Tryz.underlying25 infoN rfl (by decide) _ 0 [] rfl hnil _ M.length (cellsV M) rfl hrow0 hones h63 ?_ hl0 ?_
                  exact hby
                  intro u7 w2 hown2 hgrow2
                  have hb2 : Below wo.heap.size wo w2:=below_own hb0 hnil hgrow2 hl0 (Nat.le_refl _)
                  rw [Nat.zero_add,List.nil_append] at hown2
                  obtain ⟨a7,c7,e7⟩:=own_slice hown2
                  subst e7
                  have hz2:=hgrow2.size
                  have bx2:=bx.keep (w':=w2) (hgrow2.block wo.heap.size hlt0.out (fun e => nomatch e))
                  have p0:=bx2.cell (i:=0) rfl
                  have p1:=bx2.cell (i:=1) rfl
                  have p2:=bx2.cell (i:=2) rfl
                  have p3:=bx2.cell (i:=3) rfl
                  have p4:=bx2.cell (i:=4) rfl
                  have hzw : wo.heap.size ≤ w2.heap.size:=Nat.le_trans hl0 hz2
                  skip)
               | (at_builtin; refine wpList_appK w2 [.int .i64 k,.string n,.slice a1 ats.length e1,.string tx,.slice a2 ks.length e2] 5 rfl _ _ 25 41 rfl wo.heap.size Tryz.underlying25 infoN rfl (by decide) _ M.length (cellsV M) rfl hown2 _ rfl rfl rfl (five_one _ _ _ _ _ _ _ _ _) h63' ?_ hzw ?_; exact hby'; intro g cq w3 hown3 hgrow3 hat3))
      have hb3:=below_own hb2 hown2 hgrow3 hzw (Nat.le_refl _)
      have hown4 : w3.ownsRow wo.heap.size 41 5 (.slice (some ⟨g,0,none⟩) (M.length + 1) cq) (M ++ [(⟨.mk k n ats tx ks,.slice a1 ats.length e1,.slice a2 ks.length e2⟩ : NV)]).length (cellsV (M ++ [(⟨.mk k n ats tx ks,.slice a1 ats.length e1,.slice a2 ks.length e2⟩ : NV)])):=by
        rw [cellsV_snoc,List.length_append]; exact hown3
      have hres : Hid (RepN (fun b => S b ∨ (wo.heap.size ≤ b ∧ b < w3.heap.size)) w3 (.slice (some ⟨g,0,none⟩) (M.length + 1) cq) R):=by
        show RepN _ _ _ _
        rw [hR2.out]
        exact ShrP.of_row hS hown4 hb3 (fun b hb => by
          rcases List.mem_append.1 hb with hb | hb
          · exact hM b hb
          · rw [List.mem_singleton] at hb
            subst hb
            exact hxr.out)
      clear hown3 hgrow3 hat3 hown4 hgrow2 hown2
      go_ret
      exact ⟨_,rfl,hres.out,hb3⟩
    · obtain rfl : k = 2:=by simpa using hk2
      have hisx : M3.isText (.mk 2 n ats tx ks) = true:=rfl
      clear hk2
      rcases List.eq_nil_or_concat M with rfl | ⟨o,y,rfl⟩
      · -- the first one
        cases hte : tx.toList.isEmpty
        · have hR2 : Hid (R = (([] : List NV) ++ [(⟨.mk 2 n ats tx ks,.slice a1 ats.length e1,.slice a2 ks.length e2⟩ : NV)]).map NV.x):=by
            show _ = _
            rw [hR.out,push_end (x:=.mk 2 n ats tx ks) (by unfold M3.bareB; rw [show M3.nilB (Nd.mk 2 n ats tx ks).text = false from hte,Bool.and_false]) (Or.inr (fun o y h => by simp at h))]
            rfl
          clear hR
          go_enter Tryz.func83,Tryz.ntmps83
          go_wp2_with (first
                   | (at_builtin
                      refine wpList_spread (wo.alloc (.cells #[.int .i64 2,.string n,.slice a1 ats.length e1,.string tx,.slice a2 ks.length e2] 41)) 5 S rfl _ _ 25 41 rfl wo.heap.size Tryz.underlying25 infoN rfl (by decide) _ 0 [] rfl hnil _ ([] : List NV).length (cellsV ([] : List NV)) rfl hrow0 hones h63 ?_ hl0 ?_
                      exact hby
                      intro u7 w2 hown2 hgrow2
                      have hb2 : Below wo.heap.size wo w2:=below_own hb0 hnil hgrow2 hl0 (Nat.le_refl _)
                      rw [Nat.zero_add,List.nil_append] at hown2
                      obtain ⟨a7,c7,e7⟩:=own_slice hown2
                      subst e7
                      have hz2:=hgrow2.size
                      have bx2:=bx.keep (w':=w2) (hgrow2.block wo.heap.size hlt0.out (fun e => nomatch e))
                      have p0:=bx2.cell (i:=0) rfl
                      have p1:=bx2.cell (i:=1) rfl
                      have p2:=bx2.cell (i:=2) rfl
                      have p3:=bx2.cell (i:=3) rfl
                      have p4:=bx2.cell (i:=4) rfl
                      have hzw : wo.heap.size ≤ w2.heap.size:=Nat.le_trans hl0 hz2
                      skip)
                   | (at_builtin; refine wpList_appK w2 [.int .i64 2,.string n,.slice a1 ats.length e1,.string tx,.slice a2 ks.length e2] 5 rfl _ _ 25 41 rfl wo.heap.size Tryz.underlying25 infoN rfl (by decide) _ ([] : List NV).length (cellsV ([] : List NV)) rfl hown2 _ rfl rfl rfl (five_one _ _ _ _ _ _ _ _ _) h63' ?_ hzw ?_; exact hby'; intro g cq w3 hown3 hgrow3 hat3))
          have hb3:=below_own hb2 hown2 hgrow3 hzw (Nat.le_refl _)
          have hown4 : w3.ownsRow wo.heap.size 41 5 (.slice (some ⟨g,0,none⟩) (([] : List NV).length + 1) cq) (([] : List NV) ++ [(⟨.mk 2 n ats tx ks,.slice a1 ats.length e1,.slice a2 ks.length e2⟩ : NV)]).length (cellsV (([] : List NV) ++ [(⟨.mk 2 n ats tx ks,.slice a1 ats.length e1,.slice a2 ks.length e2⟩ : NV)])):=by
            rw [cellsV_snoc,List.length_append]; exact hown3
          have hres : Hid (RepN (fun b => S b ∨ (wo.heap.size ≤ b ∧ b < w3.heap.size)) w3 (.slice (some ⟨g,0,none⟩) (([] : List NV).length + 1) cq) R):=by
            show RepN _ _ _ _
            rw [hR2.out]
            exact ShrP.of_row hS hown4 hb3 (fun b hb => by
              rcases List.mem_append.1 hb with hb | hb
              · exact hM b hb
              · rw [List.mem_singleton] at hb
                subst hb
                exact hxr.out)
          clear hown3 hgrow3 hat3 hown4 hgrow2 hown2
          go_ret
          exact ⟨_,rfl,hres.out,hb3⟩
        · have hR2 : Hid (R = (([] : List NV)).map NV.x):=by
            show _ = _
            rw [hR.out,M3.push_bare (x:=.mk 2 n ats tx ks) (by unfold M3.bareB; rw [hisx,show M3.nilB (Nd.mk 2 n ats tx ks).text = true from hte]; rfl)]
          clear hR
          go_enter Tryz.func83,Tryz.ntmps83
          go_wp2_with (first
                   | (at_builtin
                      refine wpList_spread (wo.alloc (.cells #[.int .i64 2,.string n,.slice a1 ats.length e1,.string tx,.slice a2 ks.length e2] 41)) 5 S rfl _ _ 25 41 rfl wo.heap.size Tryz.underlying25 infoN rfl (by decide) _ 0 [] rfl hnil _ ([] : List NV).length (cellsV ([] : List NV)) rfl hrow0 hones h63 ?_ hl0 ?_
                      exact hby
                      intro u7 w2 hown2 hgrow2
                      have hb2 : Below wo.heap.size wo w2:=below_own hb0 hnil hgrow2 hl0 (Nat.le_refl _)
                      rw [Nat.zero_add,List.nil_append] at hown2
                      obtain ⟨a7,c7,e7⟩:=own_slice hown2
                      subst e7
                      have hz2:=hgrow2.size
                      have bx2:=bx.keep (w':=w2) (hgrow2.block wo.heap.size hlt0.out (fun e => nomatch e))
                      have p0:=bx2.cell (i:=0) rfl
                      have p1:=bx2.cell (i:=1) rfl
                      have p2:=bx2.cell (i:=2) rfl
                      have p3:=bx2.cell (i:=3) rfl
                      have p4:=bx2.cell (i:=4) rfl
                      have hzw : wo.heap.size ≤ w2.heap.size:=Nat.le_trans hl0 hz2
                      skip))
          have hres : Hid (RepN (fun b => S b ∨ (wo.heap.size ≤ b ∧ b < w2.heap.size)) w2 (.slice a7 0 c7) R):=by
            show RepN _ _ _ _
            rw [hR2.out]
            exact ShrP.of_row hS hown2 hb2 hM
          clear hgrow2 hown2
          go_ret
          exact ⟨_,rfl,hres.out,hb2⟩
      · -- behind others
        rw [List.concat_eq_append] at *
        have hol : (o ++ [y]).length = o.length + 1:=by simp
        rw [hol] at hrow0 h63 hby h63' hby' hll
        have hytx : y.x.text.size ≤ 1073741824:=by
          have h1:=txtN_mem (l:=(o ++ [y]).map NV.x) (x:=y.x) (by simp)
          omega
        have hA0 : (0 : Int) ≤ (o.length : Int):=by omega
        have hA1 : (o.length : Int) < (o.length : Int) + 1:=by omega
        have hA2 : ((o.length : Int) + 1 - 1) = (o.length : Int):=by omega
        have hol2 : ∀ w,(Builtin.len_ #[25] 3 #[.slice a (o ++ [y]).length cap]).run Tryz.prog w = .ok (.int .i64 ((o.length : Int) + 1)) w:=fun w => by rw [hol]; rfl
        show Calls Tryz.prog 83 #[.slice a (o ++ [y]).length cap,_,_] _ _
        rw [hol]
        rw [hol] at hrow
        obtain ⟨⟨k2,n2,ats2,t2,ks2⟩,va2,vk2⟩:=y
        simp only [Nd.text] at hytx
        cases hky : (k2 == 2)
        · have hisy : M3.isText (.mk k2 n2 ats2 t2 ks2) = false:=hky
          cases hte : tx.toList.isEmpty
          · have hR2 : Hid (R = ((o ++ [(⟨.mk k2 n2 ats2 t2 ks2,va2,vk2⟩ : NV)]) ++ [(⟨.mk 2 n ats tx ks,.slice a1 ats.length e1,.slice a2 ks.length e2⟩ : NV)]).map NV.x):=by
              show _ = _
              rw [hR.out,push_end (x:=.mk 2 n ats tx ks) (by unfold M3.bareB; rw [show M3.nilB (Nd.mk 2 n ats tx ks).text = false from hte,Bool.and_false]) (Or.inr (fun o' y' h => by
                rw [List.map_append,List.map_cons,List.map_nil] at h
                have:=(List.append_inj' h rfl).2
                cases this
                exact hisy))]
              simp only [List.map_append,List.map_cons,List.map_nil]
            clear hR
            go_enter Tryz.func83,Tryz.ntmps83
            go_wp2_with (first
                     | (at_builtin
                        refine wpList_spread (wo.alloc (.cells #[.int .i64 2,.string n,.slice a1 ats.length e1,.string tx,.slice a2 ks.length e2] 41)) 5 S rfl _ _ 25 41 rfl wo.heap.size Tryz.underlying25 infoN rfl (by decide) _ 0 [] rfl hnil _ (o.length + 1) (cellsV (o ++ [(⟨.mk k2 n2 ats2 t2 ks2,va2,vk2⟩ : NV)])) rfl hrow0 hones h63 ?_ hl0 ?_
                        exact hby
                        intro u7 w2 hown2 hgrow2
                        have hb2 : Below wo.heap.size wo w2:=below_own hb0 hnil hgrow2 hl0 (Nat.le_refl _)
                        rw [Nat.zero_add,List.nil_append] at hown2
                        obtain ⟨g7,c7,e7,hg7,hg7l⟩:=hown2.form (by omega)
                        subst e7
                        obtain ⟨o0,o3,f3⟩:=own_atV hown2 o.length (by simp)
                        rw [List.getElem_append_right (Nat.le_refl _)] at o0 o3
                        simp only [Nat.sub_self,List.getElem_cons_zero,Nd.kind,Nd.text] at o0 o3
                        have hcp2:=own_cap7 hown2
                        have hz2:=hgrow2.size
                        have bx2:=bx.keep (w':=w2) (hgrow2.block wo.heap.size hlt0.out (fun e => nomatch e))
                        have p0:=bx2.cell (i:=0) rfl
                        have p1:=bx2.cell (i:=1) rfl
                        have p2:=bx2.cell (i:=2) rfl
                        have p3:=bx2.cell (i:=3) rfl
                        have p4:=bx2.cell (i:=4) rfl
                        have hzw : wo.heap.size ≤ w2.heap.size:=Nat.le_trans hl0 hz2
                        skip)
                     | (at_builtin; refine wpList_appK w2 [.int .i64 2,.string n,.slice a1 ats.length e1,.string tx,.slice a2 ks.length e2] 5 rfl _ _ 25 41 rfl wo.heap.size Tryz.underlying25 infoN rfl (by decide) _ (o.length + 1) (cellsV (o ++ [(⟨.mk k2 n2 ats2 t2 ks2,va2,vk2⟩ : NV)])) rfl hown2 _ rfl rfl rfl (five_one _ _ _ _ _ _ _ _ _) h63' ?_ hzw ?_; exact hby'; intro g cq w3 hown3 hgrow3 hat3))
            have hb3:=below_own hb2 hown2 hgrow3 hzw (Nat.le_refl _)
            have hown4 : w3.ownsRow wo.heap.size 41 5 (.slice (some ⟨g,0,none⟩) ((o.length + 1) + 1) cq) ((o ++ [(⟨.mk k2 n2 ats2 t2 ks2,va2,vk2⟩ : NV)]) ++ [(⟨.mk 2 n ats tx ks,.slice a1 ats.length e1,.slice a2 ks.length e2⟩ : NV)]).length (cellsV ((o ++ [(⟨.mk k2 n2 ats2 t2 ks2,va2,vk2⟩ : NV)]) ++ [(⟨.mk 2 n ats tx ks,.slice a1 ats.length e1,.slice a2 ks.length e2⟩ : NV)])):=by
              rw [cellsV_snoc,List.length_append,hol]; exact hown3
            have hres : Hid (RepN (fun b => S b ∨ (wo.heap.size ≤ b ∧ b < w3.heap.size)) w3 (.slice (some ⟨g,0,none⟩) ((o.length + 1) + 1) cq) R):=by
              show RepN _ _ _ _
              rw [hR2.out]
              exact ShrP.of_row hS hown4 hb3 (fun b hb => by
                rcases List.mem_append.1 hb with hb | hb
                · exact hM b hb
                · rw [List.mem_singleton] at hb
                  subst hb
                  exact hxr.out)
            clear hown3 hgrow3 hat3 hown4 hgrow2 hown2
            go_ret
            exact ⟨_,rfl,hres.out,hb3⟩
          · have hR2 : Hid (R = (o ++ [(⟨.mk k2 n2 ats2 t2 ks2,va2,vk2⟩ : NV)]).map NV.x):=by
              show _ = _
              rw [hR.out,M3.push_bare (x:=.mk 2 n ats tx ks) (by unfold M3.bareB; rw [hisx,show M3.nilB (Nd.mk 2 n ats tx ks).text = true from hte]; rfl)]
            clear hR
            go_enter Tryz.func83,Tryz.ntmps83
            go_wp2_with (first
                     | (at_builtin
                        refine wpList_spread (wo.alloc (.cells #[.int .i64 2,.string n,.slice a1 ats.length e1,.string tx,.slice a2 ks.length e2] 41)) 5 S rfl _ _ 25 41 rfl wo.heap.size Tryz.underlying25 infoN rfl (by decide) _ 0 [] rfl hnil _ (o.length + 1) (cellsV (o ++ [(⟨.mk k2 n2 ats2 t2 ks2,va2,vk2⟩ : NV)])) rfl hrow0 hones h63 ?_ hl0 ?_
                        exact hby
                        intro u7 w2 hown2 hgrow2
                        have hb2 : Below wo.heap.size wo w2:=below_own hb0 hnil hgrow2 hl0 (Nat.le_refl _)
                        rw [Nat.zero_add,List.nil_append] at hown2
                        obtain ⟨g7,c7,e7,hg7,hg7l⟩:=hown2.form (by omega)
                        subst e7
                        obtain ⟨o0,o3,f3⟩:=own_atV hown2 o.length (by simp)
                        rw [List.getElem_append_right (Nat.le_refl _)] at o0 o3
                        simp only [Nat.sub_self,List.getElem_cons_zero,Nd.kind,Nd.text] at o0 o3
                        have hcp2:=own_cap7 hown2
                        have hz2:=hgrow2.size
                        have bx2:=bx.keep (w':=w2) (hgrow2.block wo.heap.size hlt0.out (fun e => nomatch e))
                        have p0:=bx2.cell (i:=0) rfl
                        have p1:=bx2.cell (i:=1) rfl
                        have p2:=bx2.cell (i:=2) rfl
                        have p3:=bx2.cell (i:=3) rfl
                        have p4:=bx2.cell (i:=4) rfl
                        have hzw : wo.heap.size ≤ w2.heap.size:=Nat.le_trans hl0 hz2
                        skip))
            have hres : Hid (RepN (fun b => S b ∨ (wo.heap.size ≤ b ∧ b < w2.heap.size)) w2 (.slice (some ⟨g7,0,none⟩) (o.length + 1) c7) R):=by
              show RepN _ _ _ _
              rw [hR2.out]
              exact ShrP.of_row hS (by rw [hol]; exact hown2) hb2 hM
            clear hgrow2 hown2
            go_ret
            exact ⟨_,rfl,hres.out,hb2⟩
        · obtain rfl : k2 = 2:=by simpa using hky
          have hR2 : Hid (R = (o ++ [NV.withText (⟨.mk 2 n2 ats2 t2 ks2,va2,vk2⟩ : NV) (M3.cat t2 tx)]).map NV.x):=by
            show _ = _
            rw [hR.out,List.map_append,List.map_cons,List.map_nil,push_cat hisx rfl,List.map_append]
            rfl
          clear hR
          have hq3 : ¬ (9223372036854775807 < t2.size + tx.size):=by omega
          go_enter Tryz.func83,Tryz.ntmps83
          go_wp2_with (first
                   | (at_builtin
                      refine wpList_spread (wo.alloc (.cells #[.int .i64 2,.string n,.slice a1 ats.length e1,.string tx,.slice a2 ks.length e2] 41)) 5 S rfl _ _ 25 41 rfl wo.heap.size Tryz.underlying25 infoN rfl (by decide) _ 0 [] rfl hnil _ (o.length + 1) (cellsV (o ++ [(⟨.mk 2 n2 ats2 t2 ks2,va2,vk2⟩ : NV)])) rfl hrow0 hones h63 ?_ hl0 ?_
                      exact hby
                      intro u7 w2 hown2 hgrow2
                      have hb2 : Below wo.heap.size wo w2:=below_own hb0 hnil hgrow2 hl0 (Nat.le_refl _)
                      rw [Nat.zero_add,List.nil_append] at hown2
                      obtain ⟨g7,c7,e7,hg7,hg7l⟩:=hown2.form (by omega)
                      subst e7
                      obtain ⟨o0,o3,f3⟩:=own_atV hown2 o.length (by simp)
                      rw [List.getElem_append_right (Nat.le_refl _)] at o0 o3
                      simp only [Nat.sub_self,List.getElem_cons_zero,Nd.kind,Nd.text] at o0 o3
                      have hcp2:=own_cap7 hown2
                      have hz2:=hgrow2.size
                      have bx2:=bx.keep (w':=w2) (hgrow2.block wo.heap.size hlt0.out (fun e => nomatch e))
                      have p0:=bx2.cell (i:=0) rfl
                      have p1:=bx2.cell (i:=1) rfl
                      have p2:=bx2.cell (i:=2) rfl
                      have p3:=bx2.cell (i:=3) rfl
                      have p4:=bx2.cell (i:=4) rfl
                      have hzw : wo.heap.size ≤ w2.heap.size:=Nat.le_trans hl0 hz2
                      skip))
          go_still_tail 12,(by kernel_rfl)
          change wpList _ _ _ _ _ w2.drew
          go_wp2_with fail
          have hst:=(hown2.stored (o.length * 5 + 3) (.string (t2 ++ tx))).1
          have hown3:=own_keep hst (w':=(w2.setCell ⟨g7,o.length * 5 + 3,none⟩ (.string (t2 ++ tx))).drew) (fun _ _ => rfl)
          rw [setText_cells _ _ _ _ rfl,← cat_eq] at hown3
          have hb3 : Below wo.heap.size wo (w2.setCell ⟨g7,o.length * 5 + 3,none⟩ (.string (t2 ++ tx))).drew:=(hb2.setCell (p:=⟨g7,o.length * 5 + 3,none⟩) hg7 _).drew
          have hb3':=hb3
          have hown4 : (w2.setCell ⟨g7,o.length * 5 + 3,none⟩ (.string (t2 ++ tx))).drew.ownsRow wo.heap.size 41 5 (.slice (some ⟨g7,0,none⟩) (o.length + 1) c7) (o ++ [NV.withText (⟨.mk 2 n2 ats2 t2 ks2,va2,vk2⟩ : NV) (M3.cat t2 tx)]).length (cellsV (o ++ [NV.withText (⟨.mk 2 n2 ats2 t2 ks2,va2,vk2⟩ : NV) (M3.cat t2 tx)])):=by
            rw [List.length_append]; exact hown3
          have hres : Hid (RepN (fun b => S b ∨ (wo.heap.size ≤ b ∧ b < (w2.setCell ⟨g7,o.length * 5 + 3,none⟩ (.string (t2 ++ tx))).drew.heap.size)) (w2.setCell ⟨g7,o.length * 5 + 3,none⟩ (.string (t2 ++ tx))).drew (.slice (some ⟨g7,0,none⟩) (o.length + 1) c7) R):=by
            show RepN _ _ _ _
            rw [hR2.out]
            exact ShrP.of_row hS hown4 hb3 (fun b hb => by
              rcases List.mem_append.1 hb with hb | hb
              · exact hM b (by simp [hb])
              · rw [List.mem_singleton] at hb
                subst hb
                have h:=hM (⟨.mk 2 n2 ats2 t2 ks2,va2,vk2⟩ : NV) (by simp)
                exact ⟨h.1,h.2⟩)
          clear hst hown3 hown4 hown2 hgrow2
          go_ret
          exact ⟨_,rfl,hres.out,hb3'⟩
  | succ d ih =>
    intro S v vp L x va vk w hok hd hw ht hS hr hp hx
    obtain ⟨xs,hrow,hrc⟩:=hr
    obtain ⟨M,hML,rfl,hM⟩:=RepC.nv _ _ hrc
    rcases List.eq_nil_or_concat M with rfl | ⟨o,y,rfl⟩
    · have hML : [] = L:=hML
      subst hML
      exact hok.elim
    rw [List.concat_eq_append] at *
    have hML : L = o.map NV.x ++ [y.x]:=by rw [← hML,List.map_append]; rfl
    subst hML
    rw [M7.okD_snoc] at hok
    rw [M7.pathN_snoc,List.length_map] at hp
    have hpl:=M7.pathN_len hok
    have hol : (o ++ [y]).length = o.length + 1:=by simp
    have hlL : (o.map NV.x ++ [y.x]).length = o.length + 1:=by simp
    rw [hlL] at hrow
    have hll:=M3.length_le_weight (o.map NV.x ++ [y.x])
    rw [hlL] at hll
    have hwy:=weight_le (l:=o.map NV.x ++ [y.x]) (x:=y.x) (by simp)
    have hdy:=dt_mem (l:=o.map NV.x ++ [y.x]) (x:=y.x) (by simp)
    rw [M7.putN_snoc]
    obtain ⟨R,hR⟩ : ∃ R,Hid (R = o.map NV.x ++ [M7.wk y.x (M7.putN d x y.x.kids)]):=⟨_,rfl⟩
    rw [← hR.out]
    have hih:=Lib.hid (fun S v vp va vk w hS hr hp hx => ih S v vp y.x.kids x va vk w hok (by omega) (by omega) (by omega) hS hr hp hx)
    clear ih
    generalize M7.putN d x y.x.kids = l8 at *
    obtain ⟨a,cap,hv⟩:=hrow.slice
    subst hv
    obtain ⟨ap,cp,hvp⟩:=Row.slice hp
    subst hvp
    rw [List.length_cons,hpl] at hp ⊢
    generalize M7.pathN d y.x.kids = P at *
    obtain ⟨bp,offp,eap,hSbp,kp0⟩:=Ints.at_ hp 0 o.length rfl
    subst eap
    rw [Nat.add_zero] at kp0
    obtain ⟨-,hlp,hcp⟩:=Row.len hp
    have hrest : Ints S w (.slice (if cp = 1 then some ⟨bp,offp,none⟩ else some ⟨bp,offp + 1,none⟩) d (cp - 1)) P:=by
      have h1 : Row S w 1 (.slice (some ⟨bp,offp,none⟩) (d + 1) cp) ((P.map fun k : Nat => Value.int .i64 (k : Int)).length + 1) (.int .i64 (o.length : Int) :: P.map fun k : Nat => Value.int .i64 (k : Int)):=by
        rw [List.length_map]; exact hp
      have h2:=h1.rest1
      rw [List.length_map] at h2
      exact h2
    obtain ⟨k,n,ats,tx,ks⟩:=x
    obtain ⟨a1,e1,hva⟩:=hx.at_.slice
    obtain ⟨a2,e2,hvk⟩:=hx.kids.slice
    subst hva
    subst hvk
    have hyv:=hM y (by simp)
    obtain ⟨a4,e4,hyk⟩:=hyv.kids.slice
    show Calls Tryz.prog 83 #[.slice a (o.length + 1) cap,.slice (some ⟨bp,offp,none⟩) (d + 1) cp,.agg #[.int .i64 k,.string n,.slice a1 ats.length e1,.string tx,.slice a2 ks.length e2]] w _
    have h63 : 0 + (o.length + 1) ≤ 9223372036854775807:=by omega
    have hby : (0 + (o.length + 1)) * 88 ≤ 140737488355328:=by omega
    have hones:=cellsV_ones (fun b hb => (hM b hb).ok)
    obtain ⟨wo,rfl⟩ : ∃ wo : World,wo = w:=⟨_,rfl⟩
    have bx:=Box.new wo 41 [.int .i64 k,.string n,.slice a1 ats.length e1,.string tx,.slice a2 ks.length e2]
    have hb0 : Below wo.heap.size wo (wo.alloc (.cells #[.int .i64 k,.string n,.slice a1 ats.length e1,.string tx,.slice a2 ks.length e2] 41)):=(Below.refl _ wo).alloc (Nat.le_refl _) _
    have hsz : wo.heap.size + 1 = (wo.alloc (.cells #[.int .i64 k,.string n,.slice a1 ats.length e1,.string tx,.slice a2 ks.length e2] 41)).heap.size:=by simp
    have hrow0 : Row S (wo.alloc (.cells #[.int .i64 k,.string n,.slice a1 ats.length e1,.string tx,.slice a2 ks.length e2] 41)) 5 (.slice a (o.length + 1) cap) (o.length + 1) (cellsV (o ++ [y])):=Row.keep hrow (fun b h => hb0.block b (hS b h))
    have hl0 : wo.heap.size ≤ (wo.alloc (.cells #[.int .i64 k,.string n,.slice a1 ats.length e1,.string tx,.slice a2 ks.length e2] 41)).heap.size:=by omega
    have hnil : (wo.alloc (.cells #[.int .i64 k,.string n,.slice a1 ats.length e1,.string tx,.slice a2 ks.length e2] 41)).ownsRow wo.heap.size 41 5 (.slice none 0 0) 0 []:=World.ownsRow_nil _ _ _ _
    have hlt0:=Lib.hid (show wo.heap.size < (wo.alloc (.cells #[.int .i64 k,.string n,.slice a1 ats.length e1,.string tx,.slice a2 ks.length e2] 41)).heap.size from by rw [← hsz]; exact Nat.lt_succ_self _)
    clear hsz hrc
    have hxr:=Lib.hid hx
    have hyr:=Lib.hid hyv
    replace hrest:=Lib.hid hrest
    replace hM:=Lib.hid hM
    have hbp:=hS bp hSbp
    have hA0 : (0 : Int) ≤ (o.length : Int):=by omega
    have hA1 : (o.length : Int) < (o.length : Int) + 1:=by omega
    have hd0 : (0 : Int) < (d : Int) + 1:=by omega
    have hdn0 : (0 : Int) ≤ (d : Int):=by omega
    clear hx hyv hML hlL hwy hdy hpl hlp hcp hll
    replace hok:=Lib.hid hok
    replace hw:=Lib.hid hw
    replace ht:=Lib.hid ht
    replace hp:=Lib.hid hp
    replace hrow:=Lib.hid hrow
    go_enter Tryz.func83,Tryz.ntmps83
    go_wp2_with (first
             | (at_builtin
                refine wpList_spread (wo.alloc (.cells #[.int .i64 k,.string n,.slice a1 ats.length e1,.string tx,.slice a2 ks.length e2] 41)) 5 S rfl _ _ 25 41 rfl wo.heap.size Tryz.underlying25 infoN rfl (by decide) _ 0 [] rfl hnil _ (o.length + 1) (cellsV (o ++ [y])) rfl hrow0 hones h63 ?_ hl0 ?_
                exact hby
                intro u7 w2 hown2 hgrow2
                have hb2 : Below wo.heap.size wo w2:=below_own hb0 hnil hgrow2 hl0 (Nat.le_refl _)
                rw [Nat.zero_add,List.nil_append] at hown2
                obtain ⟨g7,c7,e7,hg7,hg7l⟩:=hown2.form (by omega)
                subst e7
                obtain ⟨o0,o4,f4⟩:=own_at7 hown2 o.length (by simp)
                rw [List.getElem_append_right (Nat.le_refl _)] at o0 o4
                simp only [Nat.sub_self,List.getElem_cons_zero] at o0 o4
                rw [hyk] at o4
                have kp1:=cell_of_below hb2 kp0 hbp
                have hcp2:=own_cap7 hown2
                have hz2:=hgrow2.size
                have bx2:=bx.keep (w':=w2) (hgrow2.block wo.heap.size hlt0.out (fun e => nomatch e))
                have p0:=bx2.cell (i:=0) rfl
                have p1:=bx2.cell (i:=1) rfl
                have p2:=bx2.cell (i:=2) rfl
                have p3:=bx2.cell (i:=3) rfl
                have p4:=bx2.cell (i:=4) rfl
                have hzw:=Lib.hid (Nat.le_trans hl0 hz2)
                replace hown2:=Lib.hid hown2
                replace hgrow2:=Lib.hid hgrow2
                replace hb2:=Lib.hid hb2
                replace bx2:=Lib.hid bx2
                replace hcp2:=Lib.hid hcp2
                replace hg7:=Lib.hid hg7
                replace hg7l:=Lib.hid hg7l
                clear hz2 hl0 hnil hrow0 hones hb0
                skip))
    have hcall : ∀ W,Below w2.heap.size w2 W → Calls Tryz.prog 83 #[.slice a4 y.x.kids.length e4,.slice (if cp = 1 then some ⟨bp,offp,none⟩ else some ⟨bp,offp + 1,none⟩) d (cp - 1),.agg #[.int .i64 k,.string n,.slice a1 ats.length e1,.string tx,.slice a2 ks.length e2]] W (ShrP S l8 W):=fun W hW => by
      have hbW:=bt hb2.out hW
      have hyk2:=hyr.out.kids
      rw [hyk] at hyk2
      exact hih.out S _ _ _ _ W (fun b hb => Nat.lt_of_lt_of_le (hS b hb) hbW.size) (hyk2.below hS hbW) (hrest.out.below hS hbW) (hxr.out.below hS hbW)
    replace hcall:=Lib.hid hcall
    have hat : ∀ W,Below w2.heap.size w2 W → W.cell? ⟨g7,o.length * 5 + 4,none⟩ = some (.slice a4 y.x.kids.length e4) ∧ W.frozen? ⟨g7,o.length * 5 + 4,none⟩ = false:=fun W hW => by
      obtain ⟨-,q4,f4⟩:=own_at7 (own_below3 hown2.out hW) o.length (by simp)
      rw [List.getElem_append_right (Nat.le_refl _)] at q4
      simp only [Nat.sub_self,List.getElem_cons_zero] at q4
      rw [hyk] at q4
      exact ⟨q4,f4⟩
    replace hat:=Lib.hid hat
    have hbox : ∀ W,Below w2.heap.size w2 W → W.cell? ⟨wo.heap.size,0,none⟩ = some (.int .i64 k) ∧ W.cell? ⟨wo.heap.size,1,none⟩ = some (.string n) ∧ W.cell? ⟨wo.heap.size,2,none⟩ = some (.slice a1 ats.length e1) ∧ W.cell? ⟨wo.heap.size,3,none⟩ = some (.string tx) ∧ W.cell? ⟨wo.heap.size,4,none⟩ = some (.slice a2 ks.length e2):=fun W hW => by
      have hx:=bx2.out.below hW bx2.out.lt
      exact ⟨hx.cell (i:=0) rfl,hx.cell (i:=1) rfl,hx.cell (i:=2) rfl,hx.cell (i:=3) rfl,hx.cell (i:=4) rfl⟩
    replace hbox:=Lib.hid hbox
    have hlc:=hcp2.out
    clear p0 p1 p2 p3 p4 o0 o4 f4 kp1
    refine wp_region_known (n:=14) ([some (Value.slice (some ⟨g7,0,none⟩) (o.length + 1) c7),some (Value.int IntKind.i64 (o.length : Int)),some (Value.slice (some ⟨g7,0,none⟩) (o.length + 1) c7),some (Value.int IntKind.i64 (o.length : Int)),some (.pointer (some ⟨g7,o.length * 5,none⟩)),some (.pointer (some ⟨g7,o.length * 5 + 4,none⟩)),some (.slice a4 y.x.kids.length e4),some (Value.slice (some ⟨bp,offp,none⟩) (d + 1) cp),some (.slice (if cp = 1 then some ⟨bp,offp,none⟩ else some ⟨bp,offp + 1,none⟩) d (cp - 1)),some (.agg #[.int .i64 k,.string n,.slice a1 ats.length e1,.string tx,.slice a2 ks.length e2]),none,some (.pointer (some ⟨g7,o.length * 5,none⟩)),some (.pointer (some ⟨g7,o.length * 5 + 4,none⟩)),none] : List (Option Value)) (fun t => ⟨#[Value.slice a (o.length + 1) cap,Value.slice (some ⟨bp,offp,none⟩) (d + 1) cp,Value.agg #[Value.int IntKind.i64 k,Value.string n,Value.slice a1 ats.length e1,Value.string tx,Value.slice a2 ks.length e2],undef,undef,Value.pointer (some ⟨wo.heap.size,0,none⟩),Value.slice none 0 0,Value.slice (some ⟨g7,0,none⟩) (o.length + 1) c7,Value.int IntKind.i64 (o.length : Int),undef,Value.slice none 0 0,Value.slice a (o.length + 1) cap,Value.slice (some ⟨g7,0,none⟩) (o.length + 1) c7,Value.slice (some ⟨bp,offp,none⟩) (d + 1) cp,Value.int IntKind.i64 ((d : Int) + 1),Value.bool true,Value.slice (some ⟨bp,offp,none⟩) (d + 1) cp,Value.pointer (some ⟨bp,offp,none⟩),Value.int IntKind.i64 (o.length : Int),t 0,t 1,t 2,t 3,t 4,t 5,t 6,t 7,t 8,t 9,t 10,t 11,t 12,undef,undef,undef,undef,undef,undef,undef,undef,undef,undef,undef,undef,undef,undef,undef,undef,undef,undef,undef,undef,undef,undef,undef,undef,undef,undef,undef,undef,undef,undef,undef,undef,undef,undef,undef,undef,undef,undef,undef,undef,undef,undef,undef,undef,undef],[]⟩) (fun f t W => StJ S w2 g7 (o.length * 5 + 4) 10 13 l8 f t W) (fun j => match j with | 0 => undef | 1 => undef | 2 => undef | 3 => undef | 4 => undef | 5 => undef | 6 => undef | 7 => undef | 8 => undef | 9 => undef | 10 => undef | 11 => undef | 12 => undef | _ => undef) (by kernel_rfl) (by rfl) (by rfl) (by kernel_rfl) rfl ?i0 ?step ?fin
    case i0 =>
      exact StJ.start _ _ _ _ _ _ _ _ (by decide)
    case step =>
      intro j0 hj0 f t W hfi hwt hk2 hI
      have h13 : j0 < 11 ∨ j0 = 13 → f 13 = false:=fun hj => hI.notlast (by omega) hfi
      obtain rfl | rfl | rfl | rfl | rfl | rfl | rfl | rfl | rfl | rfl | rfl | rfl | rfl | rfl : j0 = 0 ∨ j0 = 1 ∨ j0 = 2 ∨ j0 = 3 ∨ j0 = 4 ∨ j0 = 5 ∨ j0 = 6 ∨ j0 = 7 ∨ j0 = 8 ∨ j0 = 9 ∨ j0 = 10 ∨ j0 = 11 ∨ j0 = 12 ∨ j0 = 13:=by omega
      · -- operation 0
        clear h13
        replace hI:=Lib.hid hI
        replace hk2:=Lib.hid hk2
        clear hwt
        refine wpOp_step rfl (fun K hK => ?_)
        go_simp
        exact hK _ _ ⟨_,by simp [updT],hk2.out.at_ rfl,hI.out.same _ _ (by decide) (by decide)⟩
      · -- operation 1
        clear h13
        replace hI:=Lib.hid hI
        replace hk2:=Lib.hid hk2
        clear hwt
        refine wpOp_step rfl (fun K hK => ?_)
        go_simp
        exact hK _ _ ⟨_,by simp [updT],hk2.out.at_ rfl,hI.out.same _ _ (by decide) (by decide)⟩
      · -- operation 2
        clear h13
        replace hI:=Lib.hid hI
        replace hk2:=Lib.hid hk2
        clear hwt
        refine wpOp_step rfl (fun K hK => ?_)
        go_simp
        exact hK _ _ ⟨_,by simp [updT],hk2.out.at_ rfl,hI.out.same _ _ (by decide) (by decide)⟩
      · -- operation 3
        clear h13
        replace hI:=Lib.hid hI
        replace hk2:=Lib.hid hk2
        clear hwt
        refine wpOp_step rfl (fun K hK => ?_)
        go_simp
        exact hK _ _ ⟨_,by simp [updT],hk2.out.at_ rfl,hI.out.same _ _ (by decide) (by decide)⟩
      · -- operation 4
        have e2 : t 2 = Value.slice (some ⟨g7,0,none⟩) (o.length + 1) c7:=hk2 2 _ (hwt 2 (by kernel_rfl)) rfl
        have e3 : t 3 = Value.int IntKind.i64 (o.length : Int):=hk2 3 _ (hwt 3 (by kernel_rfl)) rfl
        clear h13
        replace hI:=Lib.hid hI
        replace hk2:=Lib.hid hk2
        clear hwt
        refine wpOp_step rfl (fun K hK => ?_)
        go_simp
        exact hK _ _ ⟨_,by simp [updT,e2,e3],hk2.out.at_ rfl,hI.out.same _ _ (by decide) (by decide)⟩
      · -- operation 5
        have e4 : t 4 = .pointer (some ⟨g7,o.length * 5,none⟩):=hk2 4 _ (hwt 4 (by kernel_rfl)) rfl
        clear h13
        replace hI:=Lib.hid hI
        replace hk2:=Lib.hid hk2
        clear hwt
        refine wpOp_step rfl (fun K hK => ?_)
        go_simp
        exact hK _ _ ⟨_,by simp [updT,e4],hk2.out.at_ rfl,hI.out.same _ _ (by decide) (by decide)⟩
      · -- operation 6
        have e5 : t 5 = .pointer (some ⟨g7,o.length * 5 + 4,none⟩):=hk2 5 _ (hwt 5 (by kernel_rfl)) rfl
        have hn:=h13 (by decide)
        obtain ⟨hlow,hKn⟩:=hI.1 hn
        clear h13
        have s4:=(hat.out W hlow).1
        clear hKn hlow hn
        replace hk2:=Lib.hid hk2
        replace hI:=Lib.hid hI
        clear hwt
        refine wpOp_step rfl (fun K hK => ?_)
        go_simp
        exact hK _ _ ⟨_,by simp [updT,e5],hk2.out.at_ rfl,hI.out.same _ _ (by decide) (by decide)⟩
      · -- operation 7
        clear h13
        replace hI:=Lib.hid hI
        replace hk2:=Lib.hid hk2
        clear hwt
        refine wpOp_step rfl (fun K hK => ?_)
        go_simp
        exact hK _ _ ⟨_,by simp [updT],hk2.out.at_ rfl,hI.out.same _ _ (by decide) (by decide)⟩
      · -- operation 8
        have e7 : t 7 = Value.slice (some ⟨bp,offp,none⟩) (d + 1) cp:=hk2 7 _ (hwt 7 (by kernel_rfl)) rfl
        clear h13
        replace hk2:=Lib.hid hk2
        replace hI:=Lib.hid hI
        clear hwt
        refine wpOp_step rfl (fun K hK => ?_)
        go_simp
        rw [if_pos (by omega)]
        exact hK _ _ ⟨_,by simp [updT,Act.put,e7],hk2.out.at_ rfl,hI.out.same _ _ (by decide) (by decide)⟩
      · -- operation 9
        have hn:=h13 (by decide)
        obtain ⟨hlow,hKn⟩:=hI.1 hn
        clear h13
        obtain ⟨s0,s1,s2,s3,s4⟩:=hbox.out W hlow
        clear hKn hlow hn
        replace hk2:=Lib.hid hk2
        replace hI:=Lib.hid hI
        clear hwt
        refine wpOp_step rfl (fun K hK => ?_)
        go_simp
        exact hK _ _ ⟨_,by simp [updT,],hk2.out.at_ rfl,hI.out.same _ _ (by decide) (by decide)⟩
      · -- operation 10
        have e6 : t 6 = .slice a4 y.x.kids.length e4:=hk2 6 _ (hwt 6 (by kernel_rfl)) rfl
        have e8 : t 8 = .slice (if cp = 1 then some ⟨bp,offp,none⟩ else some ⟨bp,offp + 1,none⟩) d (cp - 1):=hk2 8 _ (hwt 8 (by kernel_rfl)) rfl
        have e9 : t 9 = .agg #[.int .i64 k,.string n,.slice a1 ats.length e1,.string tx,.slice a2 ks.length e2]:=hk2 9 _ (hwt 9 (by kernel_rfl)) rfl
        have hn:=h13 (by decide)
        obtain ⟨hlow,hKn⟩:=hI.1 hn
        clear h13
        have hC:=Lib.hid (hcall.out W hlow)
        replace hn:=Lib.hid hn
        clear hKn hlow
        replace hk2:=Lib.hid hk2
        replace hI:=Lib.hid hI
        clear hwt
        refine wpOp_step rfl (fun K hK => ?_)
        go_simp
        refine hC.out.mono ?_
        rintro e w5 ⟨v5,rfl,hr5,hb5⟩
        exact hK _ _ ⟨v5,by simp [updT,e6,e8,e9],hk2.out.free rfl,hI.out.call hn.out (by decide) hr5 hb5⟩
      · -- operation 11
        have e0 : t 0 = Value.slice (some ⟨g7,0,none⟩) (o.length + 1) c7:=hk2 0 _ (hwt 0 (by kernel_rfl)) rfl
        have e1 : t 1 = Value.int IntKind.i64 (o.length : Int):=hk2 1 _ (hwt 1 (by kernel_rfl)) rfl
        clear h13
        replace hI:=Lib.hid hI
        replace hk2:=Lib.hid hk2
        clear hwt
        refine wpOp_step rfl (fun K hK => ?_)
        go_simp
        exact hK _ _ ⟨_,by simp [updT,e0,e1],hk2.out.at_ rfl,hI.out.same _ _ (by decide) (by decide)⟩
      · -- operation 12
        have e11 : t 11 = .pointer (some ⟨g7,o.length * 5,none⟩):=hk2 11 _ (hwt 11 (by kernel_rfl)) rfl
        clear h13
        replace hI:=Lib.hid hI
        replace hk2:=Lib.hid hk2
        clear hwt
        refine wpOp_step rfl (fun K hK => ?_)
        go_simp
        exact hK _ _ ⟨_,by simp [updT,e11],hk2.out.at_ rfl,hI.out.same _ _ (by decide) (by decide)⟩
      · -- operation 13
        have e12 : t 12 = .pointer (some ⟨g7,o.length * 5 + 4,none⟩):=hk2 12 _ (hwt 12 (by kernel_rfl)) rfl
        have hn:=h13 (by decide)
        obtain ⟨hlow,hKn⟩:=hI.1 hn
        clear h13
        have hall : ∀ j,j < 11 → f j = true:=fun j hj => by
          rcases (by omega : j = 0 ∨ j = 1 ∨ j = 2 ∨ j = 3 ∨ j = 4 ∨ j = 5 ∨ j = 6 ∨ j = 7 ∨ j = 8 ∨ j = 9 ∨ j = 10) with rfl | rfl | rfl | rfl | rfl | rfl | rfl | rfl | rfl | rfl | rfl <;> exact hwt _ (by kernel_rfl)
        obtain ⟨a8,c8,e8⟩:=(hKn (hall 10 (by decide))).slice
        have hput:=hI.put hn (by decide) hall undef
        rw [e8] at hput
        obtain ⟨s4,f4⟩:=hat.out W hlow
        replace hput:=Lib.hid hput
        clear hKn hall hlow hn
        replace hk2:=Lib.hid hk2
        replace hI:=Lib.hid hI
        clear hwt
        refine wpOp_step rfl (fun K hK => ?_)
        go_simp
        exact hK _ _ ⟨undef,by simp [updT,e8,e12],hk2.out.free rfl,hput.out⟩
    case fin =>
      intro f t W hall hk2 hI
      obtain ⟨_,W0,hb0,hr8,rfl⟩:=hI.2 (hall 13 (by omega))
      clear hk2 hall hI
      obtain ⟨a8,c8,e8⟩:=hr8.slice
      rw [e8] at hr8 ⊢
      have hownW:=own_below3 hown2.out hb0
      have hst:=(hownW.stored (o.length * 5 + 4) (.slice a8 l8.length c8)).1
      rw [setKids7 o y _ l8 o.length rfl] at hst
      have hbW:=(bt hb2.out hb0).setCell (p:=⟨g7,o.length * 5 + 4,none⟩) hg7.out (.slice a8 l8.length c8)
      have hb0z:=hb0.size
      have hsW : (W0.setCell ⟨g7,o.length * 5 + 4,none⟩ (.slice a8 l8.length c8)).heap.size = W0.heap.size:=by simp [World.setCell]
      have hg1:=hg7.out
      have hg2:=hg7l.out
      have hk8 : RepN (fun b => S b ∨ (wo.heap.size ≤ b ∧ b < (W0.setCell ⟨g7,o.length * 5 + 4,none⟩ (.slice a8 l8.length c8)).heap.size)) (W0.setCell ⟨g7,o.length * 5 + 4,none⟩ (.slice a8 l8.length c8)) (.slice a8 l8.length c8) l8:=by
        refine (hr8.keep (fun c hc => Below.heap_setCell W0 _ _ c ?_)).mono (fun c hc => ?_)
        · show c ≠ g7
          rcases hc with hc | hc
          · have:=hS c hc
            omega
          · omega
        · rcases hc with hc | hc
          · exact Or.inl hc
          · exact Or.inr ⟨by have:=hzw.out; omega,by rw [hsW]; exact hc.2⟩
      obtain ⟨W,hW⟩ : ∃ W,W0.setCell ⟨g7,o.length * 5 + 4,none⟩ (.slice a8 l8.length c8) = W:=⟨_,rfl⟩
      rw [hW] at hbW hk8 hst ⊢
      have hres : Hid (RepN (fun b => S b ∨ (wo.heap.size ≤ b ∧ b < W.heap.size)) W (.slice (some ⟨g7,0,none⟩) (o.length + 1) c7) R):=by
        show RepN _ _ _ _
        have hRe : R = (o ++ [(⟨M7.wk y.x l8,y.va,.slice a8 l8.length c8⟩ : NV)]).map NV.x:=by
          rw [hR.out,List.map_append]; rfl
        rw [hRe]
        refine ⟨_,by rw [List.length_map,List.length_append]; exact Row.own hst (fun g hg => Or.inr (hst.lt g hg)),RepC.of_nv (fun b hb' => ?_)⟩
        rcases List.mem_append.1 hb' with hb' | hb'
        · exact ((hM.out b (by simp [hb'])).below hS hbW).mono (fun c hc => Or.inl hc)
        · rw [List.mem_singleton] at hb'
          subst hb'
          have h:=((hyr.out).below hS hbW).mono (S':=fun b => S b ∨ (wo.heap.size ≤ b ∧ b < W.heap.size)) (fun c hc => Or.inl hc)
          obtain ⟨⟨k2,n2,ats2,t2,ks2⟩,va2,vk2⟩:=y
          exact ⟨h.1,hk8⟩
      replace hbW:=Lib.hid hbW
      clear hW hst hk8 hr8 hownW hb0 hb0z hsW hg1 hg2
      try dsimp only
      go_wp2_with fail
      go_ret
      exact ⟨_,rfl,hres.out,hbW.out⟩
end Go.Proofs.YteefodibpjgicaaGreat
