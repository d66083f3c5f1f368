/- Texts joined: Bld3, Bld4. -/
import Derived.Test.YteefodibpjgicaaGreatA29
namespace Go.Proofs.YteefodibpjgicaaGreat
open Go.RowKit Go.Maps
theorem Bld.popS {F : Nat → Prop} {w : World} {g mb : Nat} {vo vt pt : Value} {A : List FV} {f : FV} {go cap : Nat} {tx : List UInt8} {n : Nat} {D : DataW Unit} (h : Bld F w g mb vo vt pt (A ++ [f]) tx n D) (hvo : vo = .slice (some ⟨go,0,none⟩) (A.length + 1) cap) :
    BSt F w g mb vo vt (A ++ [f]) (w.setCell ⟨g,0,none⟩ (.slice (some ⟨go,0,none⟩) A.length cap)).drew (.slice (some ⟨go,0,none⟩) A.length cap) vt pt A tx n D ∧
    RepV (idleB (grw F w (w.setCell ⟨g,0,none⟩ (.slice (some ⟨go,0,none⟩) A.length cap)).drew) g mb (.slice (some ⟨go,0,none⟩) A.length cap) vt A) (w.setCell ⟨g,0,none⟩ (.slice (some ⟨go,0,none⟩) A.length cap)).drew f.x f.va f.vk:=by
  obtain ⟨h1,h2,h3⟩:=h.pop hvo
  have hz : (w.setCell ⟨g,0,none⟩ (.slice (some ⟨go,0,none⟩) A.length cap)).drew.heap.size = w.heap.size:=by simp
  have hF : ∀ b,F b → grw F w (w.setCell ⟨g,0,none⟩ (.slice (some ⟨go,0,none⟩) A.length cap)).drew b:=fun b hb => .inl hb
  refine ⟨⟨h1.keep hF (grw_lt h.lt (by omega)) (fun _ _ => rfl),⟨h3.os,h3.tape,h3.output,h3.size,h3.block⟩,fun b hb => ?_⟩,RepV.mono (RepV.keep (w':=(w.setCell ⟨g,0,none⟩ (.slice (some ⟨go,0,none⟩) A.length cap)).drew) h2 (fun _ _ => rfl)) (fun b hb => ⟨hF b hb.1,hb.2⟩)⟩
  refine ⟨⟨.inl hb.1,fun i e => ?_⟩,Below.heap_setCell _ _ _ _ (fun e => hb.2 0 (by rw [show b = g from e]; rfl))⟩
  match i,e with
  | 0,e => exact hb.2 0 e
  | 1,e => exact hb.2 1 e
  | 3,e => exact hb.2 3 e
  | 2,e => exact hb.2 2 (by rw [hvo]; exact e)
  | i + 4,e =>
    have e : (A[i]?).bind (fun f => f.vk.ownBlock) = some b:=e
    have hi : i < A.length:=by
      rcases Nat.lt_or_ge i A.length with h1 | h1
      · exact h1
      · rw [List.getElem?_eq_none h1] at e; cases e
    refine hb.2 (i + 4) ?_
    show ((A ++ [f])[i]?).bind _ = _
    rw [List.getElem?_append_left hi]
    exact e
theorem keySS : Keyed Tryz.prog 9:=string_keyed Tryz.underlying9
def keyN (s : ByteArray) : Lit:=.string s.data.toList
def shutD (f : FV) (D : DataW Unit) : DataW Unit:=if f.nx = 0 then D.del (keyN f.x.name) else D.put (keyN f.x.name) (.lit (.int .i64 (f.nx : Int)))
set_option maxHeartbeats 8000000 in
set_option maxRecDepth 100000 in
theorem bShut {F : Nat → Prop} {w : World} {g mb : Nat} {vo vt pt : Value} {A : List FV} {p f : FV} {tx : List UInt8} {n : Nat} {D : DataW Unit} (h : Bld F w g mb vo vt pt ((A ++ [p]) ++ [f]) tx n D) (hA : A.length ≤ 900000) (hfl : f.x.kids.length ≤ 900000) (hpl : p.x.kids.length ≤ 900000) (hnm : f.x.name.size ≤ 1073741824) (hnx : f.nx ≤ 1000000) (hn : n ≤ 1000000) :
    Calls Tryz.prog 221 #[.pointer (some ⟨g,0,none⟩)] w fun e w' => e = .returned (.tuple #[]) ∧ ∃ vo' vt' pt' p' n',p'.x = M7.wk p.x (p.x.kids ++ [M7.wk f.x (f.x.kids ++ M7.endK tx)]) ∧ p'.nx = p.nx ∧ n' ≤ n + 1 ∧ BSt F w g mb vo vt ((A ++ [p]) ++ [f]) w' vo' vt' pt' (A ++ [p']) [] n' (shutD f D):=by
  obtain ⟨go,cap,hvo⟩:=h.vo_snoc
  have hll : (A ++ [p]).length = A.length + 1:=by simp
  rw [hll] at hvo
  have hlt:=h.lt
  replace hlt:=Lib.hid hlt
  go_enter Tryz.func221,Tryz.ntmps221
  go_wp2_with fail
  refine (bSettle h (by omega) (by omega)).mono ?_
  rintro e w1 ⟨rfl,vt1,pt1,f1,hf1x,hf1n,s0⟩
  obtain ⟨x1,va1,vk1,nx1⟩:=f1
  obtain ⟨aa,ca,ea⟩:=(s0.1.atts ⟨x1,va1,vk1,nx1⟩ (by simp)).slice
  obtain ⟨ys,o1,-⟩:=s0.1.kids ⟨x1,va1,vk1,nx1⟩ (by simp)
  obtain ⟨ak,ck,ek⟩:=own_sliceW o1
  change va1 = .slice aa x1.attrs.length ca at ea
  change vk1 = .slice ak x1.kids.length ck at ek
  subst ea ek
  clear o1
  have k0:=s0.1.box.cell (i:=0) rfl
  have fg:=s0.1.box.free
  have k2:=s0.1.box.cell (i:=3) rfl
  rw [hvo] at k0
  have hvo1 : vo = .slice (some ⟨go,0,none⟩) ((A ++ [p]).length + 1) cap:=by rw [hvo,hll]
  obtain ⟨c0,-⟩:=s0.1.last_cell hvo1 0 (.int .i64 x1.kind) (by decide) rfl
  obtain ⟨c1,-⟩:=s0.1.last_cell hvo1 1 (.string x1.name) (by decide) rfl
  obtain ⟨c2,-⟩:=s0.1.last_cell hvo1 2 (.slice aa x1.attrs.length ca) (by decide) rfl
  obtain ⟨c3,-⟩:=s0.1.last_cell hvo1 3 (.string x1.text) (by decide) rfl
  obtain ⟨c4,-⟩:=s0.1.last_cell hvo1 4 (.slice ak x1.kids.length ck) (by decide) rfl
  obtain ⟨c5,-⟩:=s0.1.last_cell hvo1 5 (.int .i64 (nx1 : Int)) (by decide) rfl
  rw [hll] at c0 c1 c2 c3 c4 c5
  simp only [Nat.add_zero] at c0
  replace s0:=Lib.hid s0
  change x1 = _ at hf1x
  change nx1 = f.nx at hf1n
  replace hf1x:=Lib.hid hf1x
  replace hf1n:=Lib.hid hf1n
  clear h
  have hI:=Lib.hid (bInner (go:=go) (cap:=cap) k0 (by omega))
  go_wp2_with fail
  refine hI.out.mono ?_
  rintro e w2 ⟨rfl,rfl⟩
  go_upto_region 2 with fail
  have hb1 : Below w1.heap.size w1 (w1.alloc (.cells #[.int .i64 x1.kind,.string x1.name,.slice aa x1.attrs.length ca,.string x1.text,.slice ak x1.kids.length ck,.int .i64 (nx1 : Int)] 189)).drew:=((Below.refl _ w1).alloc (Nat.le_refl _) _).drew
  have bz:=Box.new w1 189 [.int .i64 x1.kind,.string x1.name,.slice aa x1.attrs.length ca,.string x1.text,.slice ak x1.kids.length ck,.int .i64 (nx1 : Int)]
  change Box (w1.alloc (.cells #[.int .i64 x1.kind,.string x1.name,.slice aa x1.attrs.length ca,.string x1.text,.slice ak x1.kids.length ck,.int .i64 (nx1 : Int)] 189)).drew _ _ _ at bz
  obtain ⟨w2,hw2⟩ : ∃ W,(w1.alloc (.cells #[.int .i64 x1.kind,.string x1.name,.slice aa x1.attrs.length ca,.string x1.text,.slice ak x1.kids.length ck,.int .i64 (nx1 : Int)] 189)).drew = W:=⟨_,rfl⟩
  have hs2 : w2.heap.size = w1.heap.size + 1:=by rw [← hw2]; simp
  rw [hw2] at hb1 bz ⊢
  have s1:=s0.out.trans (s0.out.1.st_below hb1)
  clear k0 fg k2 c0 c1 c2 c3 c4 c5 hI hw2
  have k0:=s1.1.box.cell (i:=0) rfl
  have fg:=s1.1.box.free
  rw [hvo] at k0
  obtain ⟨hcl,hcm⟩ : A.length + 1 + 1 ≤ cap ∧ cap ≤ 9223372036854775807:=by
    obtain ⟨go',cap',e,q1,q2,_⟩:=s1.1.open_slice (by simp)
    rw [hvo] at e
    injection e with _ _ e3
    subst e3
    simp at q1
    exact ⟨by omega,q2⟩
  have hA0 : (0 : Int) ≤ (A.length : Int) + 1:=by omega
  have hA1 : (A.length : Int) + 1 ≤ (cap : Int):=by omega
  have hA2 : (A.length : Int) + 1 + 1 ≤ (cap : Int):=by omega
  obtain ⟨s3,hx3⟩:=s1.1.popS hvo1
  rw [hll] at s3 hx3
  have hgl1 : w1.heap.size ≠ g:=by
    have:=s0.out.1.box.lt; omega
  have bz3 : Box (w2.setCell ⟨g,0,none⟩ (.slice (some ⟨go,0,none⟩) (A.length + 1) cap)).drew w1.heap.size 189 [.int .i64 x1.kind,.string x1.name,.slice aa x1.attrs.length ca,.string x1.text,.slice ak x1.kids.length ck,.int .i64 (nx1 : Int)]:=bz.far (p:=⟨g,0,none⟩) hgl1 _
  have hx3:=RepV.mono hx3 (fun b hb => (⟨(grw_grw s1.2.1.size s3.2.1.size b).1 hb.1,hb.2⟩ : idleB (grw F w _) _ _ _ _ _ b))
  have s3':=s1.trans s3
  clear s3 bz
  replace s3':=Lib.hid s3'
  replace hx3:=Lib.hid hx3
  replace s1:=Lib.hid s1
  replace s0:=Lib.hid s0
  replace bz3:=Lib.hid bz3
  go_region
  obtain ⟨w3,hw3⟩ : ∃ W,(w2.setCell ⟨g,0,none⟩ (.slice (some ⟨go,0,none⟩) (A.length + 1) cap)).drew = W:=⟨_,rfl⟩
  rw [hw3] at s3' hx3 bz3 ⊢
  clear hw3 s1 k0 fg hs2 hb1
  have k3:=s3'.out.1.box.cell (i:=3) rfl
  have z0:=bz3.out.cell (i:=0) rfl
  have z1:=bz3.out.cell (i:=1) rfl
  have z2:=bz3.out.cell (i:=2) rfl
  have z3:=bz3.out.cell (i:=3) rfl
  have z4:=bz3.out.cell (i:=4) rfl
  have z5:=bz3.out.cell (i:=5) rfl
  have hnm1 : x1.name.size ≤ maxLen:=by
    rw [hf1x.out]
    show f.x.name.size ≤ _
    unfold maxLen; omega
  have hkey : keyOf Tryz.prog 9 (.string x1.name) = some (keyN x1.name):=WideMaps.keyOf_string_mk Tryz.underlying9 (s:=x1.name) hnm1
  have hn63 : n < maxLen:=by unfold maxLen; omega
  have hmb : mb < w1.heap.size:=s0.out.1.role_lt (i:=1) rfl
  have hz3 : w1.heap.size < w3.heap.size:=bz3.out.lt
  by_cases h0 : nx1 = 0
  · obtain ⟨w4,hrun,own4,turn4⟩:=s3'.out.1.drew.map.drop keySS Tryz.underlying191 hkey 0
    have hg4 : w3.grownBy w4 (some mb):=⟨turn4.grown.os,turn4.grown.tape,turn4.grown.output,turn4.grown.size,turn4.grown.block⟩
    have s4:=s3'.out.trans (show BSt (grw F w w3) w3 g mb _ vt1 _ w4 _ vt1 pt1 _ [] n (D.del (keyN x1.name)) from (s3'.out.1.putm hg4 own4))
    have hx4:=(s3'.out.1.putm hg4 own4).2.2.rep hx3.out
    have bz4:=bz3.out.keep (hg4.block w1.heap.size hz3 (fun e => by cases e; omega))
    have hx4:=RepV.mono hx4 (fun b hb => (⟨(grw_grw s3'.out.2.1.size hg4.size b).1 hb.1,hb.2⟩ : idleB (grw F w w4) _ _ _ _ _ b))
    have hn4 : n ≤ n + 1:=by omega
    have hD : shutD f D = D.del (keyN x1.name):=by
      unfold shutD
      rw [if_pos (by rw [← hf1n.out]; exact h0),hf1x.out]; rfl
    subst h0
    replace s4:=Lib.hid s4
    replace hx4:=Lib.hid hx4
    replace bz4:=Lib.hid bz4
    replace hD:=Lib.hid hD
    replace hf1n:=Lib.hid hf1n
    clear own4 turn4 hg4 bz3 s3'
    go_wp2_with fail
    go_region
    clear z0 z1 z2 z3 z4 z5 k3 hrun
    have z0:=bz4.out.cell (i:=0) rfl
    have z1:=bz4.out.cell (i:=1) rfl
    have z2:=bz4.out.cell (i:=2) rfl
    have z3:=bz4.out.cell (i:=3) rfl
    have z4:=bz4.out.cell (i:=4) rfl
    go_wp2_with fail
    refine (bAdd s4.out.1 (by omega) (by omega) hx4.out).mono ?_
    rintro e w5 ⟨rfl,vt5,pt5,p',hp'x,hp'n,s5⟩
    have s6:=s4.out.trans s5
    replace s6:=Lib.hid s6
    clear s4 s5 hx4
    replace hp'x:=Lib.hid hp'x
    replace hp'n:=Lib.hid hp'n
    go_wp2_with fail
    go_end0
    exact ⟨rfl,_,_,_,p',_,by rw [hp'x.out,M7.endK_nil,List.append_nil,hf1x.out],hp'n.out,hn4,by rw [hD.out]; exact s6.out⟩
  · have hni : ((nx1 : Int) == 0) = false:=beq_eq_false_iff_ne.2 (by omega)
    have hnw : (Lit.int .i64 (nx1 : Int)).wf = true:=by
      have h2 : IntKind.i64.min = -9223372036854775808:=rfl
      have h3 : IntKind.i64.max = 9223372036854775807:=rfl
      have : nx1 = f.nx:=hf1n.out
      simp only [Lit.wf,Bool.and_eq_true,decide_eq_true_eq,h2,h3]
      omega
    obtain ⟨w4,hrun,own4,turn4⟩:=s3'.out.1.drew.map.store keySS Tryz.underlying191 hn63 hkey (plainElem_int (H:=Unit) Tryz.underlying3 hnw)
    have hg4 : w3.grownBy w4 (some mb):=⟨turn4.grown.os,turn4.grown.tape,turn4.grown.output,turn4.grown.size,turn4.grown.block⟩
    have s4:=s3'.out.trans (show BSt (grw F w w3) w3 g mb _ vt1 _ w4 _ vt1 pt1 _ [] (n + 1) (D.put (keyN x1.name) (.lit (.int .i64 (nx1 : Int)))) from (s3'.out.1.putm hg4 own4))
    have hx4:=(s3'.out.1.putm hg4 own4).2.2.rep hx3.out
    have bz4:=bz3.out.keep (hg4.block w1.heap.size hz3 (fun e => by cases e; omega))
    have hx4:=RepV.mono hx4 (fun b hb => (⟨(grw_grw s3'.out.2.1.size hg4.size b).1 hb.1,hb.2⟩ : idleB (grw F w w4) _ _ _ _ _ b))
    have hn4 : n + 1 ≤ n + 1:=by omega
    have hD : shutD f D = D.put (keyN x1.name) (.lit (.int .i64 (nx1 : Int))):=by
      unfold shutD
      rw [if_neg (by rw [← hf1n.out]; exact h0),hf1x.out,← hf1n.out]; rfl
    replace s4:=Lib.hid s4
    replace hx4:=Lib.hid hx4
    replace bz4:=Lib.hid bz4
    replace hD:=Lib.hid hD
    replace hf1n:=Lib.hid hf1n
    clear own4 turn4 hg4 bz3 s3'
    go_wp2_with fail
    go_region
    clear z0 z1 z2 z3 z4 z5 k3 hrun
    have z0:=bz4.out.cell (i:=0) rfl
    have z1:=bz4.out.cell (i:=1) rfl
    have z2:=bz4.out.cell (i:=2) rfl
    have z3:=bz4.out.cell (i:=3) rfl
    have z4:=bz4.out.cell (i:=4) rfl
    go_wp2_with fail
    refine (bAdd s4.out.1 (by omega) (by omega) hx4.out).mono ?_
    rintro e w5 ⟨rfl,vt5,pt5,p',hp'x,hp'n,s5⟩
    have s6:=s4.out.trans s5
    replace s6:=Lib.hid s6
    clear s4 s5 hx4
    replace hp'x:=Lib.hid hp'x
    replace hp'n:=Lib.hid hp'n
    go_wp2_with fail
    go_end0
    exact ⟨rfl,_,_,_,p',_,by rw [hp'x.out,M7.endK_nil,List.append_nil,hf1x.out],hp'n.out,hn4,by rw [hD.out]; exact s6.out⟩
end Go.Proofs.YteefodibpjgicaaGreat

namespace Go.Proofs.YteefodibpjgicaaGreat
open Go.RowKit Go.Maps
theorem M7.tr_split (A : List Nd) (x : Nd) (z : List Nd) : M7.tr (A ++ [x]) z = M7.tr (A ++ [M7.wk x []]) (x.kids ++ z):=by
  have h:=M7.tr_in A (M7.wk x []) x.kids z
  have e : M7.wk (M7.wk x []) ((M7.wk x []).kids ++ x.kids) = x:=by cases x; rfl
  rw [e] at h
  exact h
theorem M7.tr_kids (fs : List Nd) (z : List Nd) : ∀ f ∈ fs,f.kids.length ≤ M3.weight (M7.tr fs z):=by
  induction fs with
  | nil => intro f h; cases h
  | cons x r ih =>
    intro f hf
    cases r with
    | nil =>
      obtain rfl:=List.mem_singleton.1 hf
      show _ ≤ M3.weight (f.kids ++ z)
      have:=M3.length_le_weight f.kids
      rw [M3.weight_append]; omega
    | cons y r =>
      rw [M7.tr_cons,M3.weight_append,M3.weight_cons]
      rcases List.mem_cons.1 hf with rfl | hf
      · have:=M3.length_le_weight f.kids
        omega
      · have:=ih f hf
        show _ ≤ M3.weight x.kids + (1 + (M7.el y (M7.tr (y :: r) z)).attrs.length + M3.weight (M7.tr (y :: r) z) + M3.weight [])
        omega
theorem M7.tr_fits (fs : List Nd) (z : List Nd) : ∀ j f,fs[j]? = some f → M3.weight f.kids ≤ M3.weight (M7.tr fs z) ∧ (0 < j → f.attrs.length ≤ M3.weight (M7.tr fs z)):=by
  induction fs with
  | nil => intro j f h; simp at h
  | cons x r ih =>
    intro j f hf
    cases r with
    | nil =>
      cases j with
      | zero =>
        obtain rfl : x = f:=by simpa using hf
        refine ⟨?_,fun h => absurd h (Nat.lt_irrefl _)⟩
        show _ ≤ M3.weight (x.kids ++ z)
        rw [M3.weight_append]; omega
      | succ j => simp at hf
    | cons y r =>
      rw [M7.tr_cons,M3.weight_append,M3.weight_cons]
      have e1 : (M7.el y (M7.tr (y :: r) z)).kids = M7.tr (y :: r) z:=rfl
      have e2 : (M7.el y (M7.tr (y :: r) z)).attrs = y.attrs:=rfl
      rw [e1,e2]
      cases j with
      | zero =>
        obtain rfl : x = f:=by simpa using hf
        exact ⟨by omega,fun h => absurd h (Nat.lt_irrefl _)⟩
      | succ j =>
        have hf2 : (y :: r)[j]? = some f:=by simpa using hf
        obtain ⟨q1,q2⟩:=ih j f hf2
        refine ⟨by omega,fun _ => ?_⟩
        cases j with
        | zero =>
          obtain rfl : y = f:=by simpa using hf2
          omega
        | succ j =>
          have:=q2 (by omega)
          omega
def namesW (fs : List FV) : List ByteArray:=M7.namesF (fs.map FV.x)
theorem namesW_snoc {A : List FV} (h : A ≠ []) (f : FV) : namesW (A ++ [f]) = namesW A ++ [f.x.name]:=by
  cases A with
  | nil => exact absurd rfl h
  | cons a A =>
    unfold namesW
    rw [List.map_append,List.map_cons,List.map_cons,List.map_nil,M7.names_snoc]
theorem namesW_last (A : List FV) (f f' : FV) (h : f'.x.name = f.x.name) : namesW (A ++ [f']) = namesW (A ++ [f]):=by
  unfold namesW M7.namesF
  rw [List.map_append,List.map_append]
  cases A with
  | nil => rfl
  | cons a A =>
    simp only [List.map_cons,List.cons_append,List.drop_succ_cons,List.drop_zero,List.map_append,List.map_nil]
    rw [h]
theorem namesW_len (fs : List FV) : (namesW fs).length = fs.length - 1:=by unfold namesW M7.namesF; simp
structure BInv (fs : List FV) (tx : List UInt8) (n : Nat) (D : DataW Unit) (s : M7.St) (q : Nat) : Prop where
  len : s.d + 1 = fs.length
  L : s.L = M7.tr (fs.map FV.x) (M7.endK tx)
  el : ∀ j f,fs[j + 1]? = some f → f.x.kind = 1 ∧ f.x.text = ⟨#[]⟩ ∧ f.x.name.size ≤ 1048576
  notx : ∀ A f,fs = A ++ [f] → M7.noTx f.x.kids
  nxt : ∀ j f,fs[j + 1]? = some f → f.nx = M7.plc (namesW fs) f.x.name j
  map : ∀ nm : ByteArray,Maps.has D (keyN nm) = decide (M7.plc (namesW fs) nm s.d ≠ 0) ∧ D.atKey (keyN nm) (.lit (.int .i64 0)) = .lit (.int .i64 (M7.plc (namesW fs) nm s.d : Int))
  fsq : fs.length ≤ q + 1
  nq : n + fs.length ≤ 2 * q + 1
  tq : tx.length ≤ q
  wq : M3.weight s.L ≤ q
  root : ∀ f,fs[0]? = some f → f.x.attrs = []
section
variable {fs A : List FV} {tx : List UInt8} {n q : Nat} {D : DataW Unit} {s : M7.St} {f p : FV}
theorem BInv.ne (h : BInv fs tx n D s q) : fs ≠ []:=fun e => by have:=h.len; rw [e] at this; simp at this
theorem BInv.snoc (h : BInv fs tx n D s q) : ∃ A f,fs = A ++ [f]:=by
  rcases List.eq_nil_or_concat fs with e | ⟨A,f,e⟩
  · exact absurd e h.ne
  · exact ⟨A,f,by rw [e,List.concat_eq_append]⟩
theorem BInv.d (h : BInv (A ++ [f]) tx n D s q) : s.d = A.length:=by have:=h.len; simp at this; exact this
theorem BInv.lx (h : BInv (A ++ [f]) tx n D s q) : s.L = M7.tr (A.map FV.x ++ [f.x]) (M7.endK tx):=by rw [h.L]; simp
theorem BInv.is (h : BInv (A ++ [f]) tx n D s q) : M7.okD s.d s.L ∧ M7.openN s.d s.L = namesW (A ++ [f]) ∧ M7.levelN s.d s.L = f.x.kids ++ M7.endK tx ∧ ∀ x,M7.putN s.d x s.L = M7.tr (A.map FV.x ++ [M7.wk f.x []]) (M3.push (f.x.kids ++ M7.endK tx) x):=by
  have:=M7.tr_is (A.map FV.x) f.x (M7.endK tx)
  rw [h.lx,h.d]
  rw [List.length_map] at this
  obtain ⟨q1,q2,q3,q4⟩:=this
  exact ⟨q1,by rw [q2]; unfold namesW; simp,q3,q4⟩
theorem BInv.names (h : BInv fs tx n D s q) : M7.openN s.d s.L = namesW fs:=by
  obtain ⟨A,f,rfl⟩:=h.snoc
  exact h.is.2.1
theorem BInv.kids_le (h : BInv fs tx n D s q) : ∀ f ∈ fs,f.x.kids.length ≤ q:=fun f hf => by
  have h1:=M7.tr_kids (fs.map FV.x) (M7.endK tx) f.x (List.mem_map_of_mem hf)
  rw [← h.L] at h1
  have:=h.wq
  omega
theorem BInv.fits (h : BInv fs tx n D s q) : ∀ f ∈ fs,M3.weight f.x.kids ≤ q ∧ f.x.attrs.length ≤ q:=fun f hf => by
  obtain ⟨j,hj⟩:=List.mem_iff_getElem?.1 hf
  have h1:=M7.tr_fits (fs.map FV.x) (M7.endK tx) j f.x (by rw [List.getElem?_map,hj]; rfl)
  rw [← h.L] at h1
  have:=h.wq
  refine ⟨by omega,?_⟩
  cases j with
  | zero => rw [h.root f hj]; simp
  | succ j => have:=h1.2 (by omega); omega
theorem BInv.at_last (_h : BInv ((A ++ [p]) ++ [f]) tx n D s q) : ((A ++ [p]) ++ [f])[A.length + 1]? = some f:=by
  rw [List.getElem?_append_right (by simp)]
  simp
theorem get_pre {A B : List FV} {j : Nat} {f : FV} (h : A[j]? = some f) : (A ++ B)[j]? = some f:=by
  rw [List.getElem?_append_left (List.getElem?_eq_some_iff.1 h).1]; exact h
theorem get_snoc {A : List FV} {j : Nat} {f g : FV} (h : (A ++ [g])[j]? = some f) : A[j]? = some f ∨ (j = A.length ∧ f = g):=by
  rcases Nat.lt_or_ge j A.length with h1 | h1
  · rw [List.getElem?_append_left h1] at h; exact .inl h
  · rw [List.getElem?_append_right h1] at h
    have h2:=(List.getElem?_eq_some_iff.1 h).1
    simp at h2
    have e : j - A.length = 0:=by omega
    rw [e] at h
    simp at h
    exact .inr ⟨by omega,h.symm⟩
theorem keyN_ne {a b : ByteArray} (h : a.data.toList ≠ b.data.toList) : keyN a ≠ keyN b:=fun e => by
  unfold keyN at e
  injection e with e
  exact h e
theorem keyN_is (s : ByteArray) : WideAt.IsKeyLit (keyN s):=trivial
theorem BInv.shut {p' : FV} {n' : Nat} (h : BInv ((A ++ [p]) ++ [f]) tx n D s q) (hm : IsMap D) (hx : p'.x = M7.wk p.x (p.x.kids ++ [M7.wk f.x (f.x.kids ++ M7.endK tx)])) (hn : p'.nx = p.nx) (hn' : n' ≤ n + 1) : BInv (A ++ [p']) [] n' (shutD f D) ⟨s.L,s.d - 1⟩ q ∧ namesW ((A ++ [p]) ++ [f]) = namesW (A ++ [p']) ++ [f.x.name]:=by
  have hname : p'.x.name = p.x.name:=by rw [hx]; rfl
  have hnm : namesW ((A ++ [p]) ++ [f]) = namesW (A ++ [p']) ++ [f.x.name]:=by
    rw [namesW_snoc (by simp),namesW_last A p p' hname]
  have hd:=h.d
  have hlp : (A ++ [p]).length = A.length + 1:=by simp
  have hle : (namesW (A ++ [p'])).length = A.length:=by rw [namesW_len]; simp
  obtain ⟨hk1,hk2,hk3⟩:=h.el A.length f h.at_last
  have hroot : ∀ g,(A ++ [p'])[0]? = some g → g.x.attrs = []:=fun g hg => by
    rcases get_snoc hg with h1 | ⟨h1,h2⟩
    · exact h.root g (get_pre (get_pre h1))
    · subst h2
      rw [hx]
      exact h.root p (get_pre (by rw [h1,List.getElem?_append_right (Nat.le_refl _),Nat.sub_self]; rfl))
  refine ⟨⟨?_,?_,?_,?_,?_,?_,?_,?_,?_,h.wq,hroot⟩,hnm⟩
  · simp; omega
  · show s.L = _
    rw [h.lx,List.map_append,List.map_append,List.map_cons,List.map_nil,List.map_cons,List.map_nil,hx]
    have e : M7.wk f.x (f.x.kids ++ M7.endK tx) = M7.el f.x (f.x.kids ++ M7.endK tx):=by
      unfold M7.wk M7.el
      rw [hk1,hk2]
    rw [e,M7.endK_nil,M7.tr_shut,List.append_assoc]; rfl
  · intro j g hg
    rcases get_snoc hg with h1 | ⟨h1,h2⟩
    · exact h.el j g (get_pre (get_pre h1))
    · subst h2
      have:=h.el j p (get_pre (by rw [h1,List.getElem?_append_right (Nat.le_refl _),Nat.sub_self]; rfl))
      rw [hx]
      exact this
  · intro B g e
    obtain ⟨rfl,e2⟩:=List.append_inj' e rfl
    have : p' = g:=by simpa using e2
    subst this
    rw [hx]
    refine M7.noTx_snoc ?_
    show M3.isText f.x = false
    unfold M3.isText
    rw [hk1]; rfl
  · intro j g hg
    have hjl:=(List.getElem?_eq_some_iff.1 hg).1
    simp at hjl
    have key : ∀ (u : FV),((A ++ [p]) ++ [f])[j + 1]? = some u → u.nx = M7.plc (namesW (A ++ [p'])) u.x.name j:=fun u hu => by
      have:=h.nxt j u hu
      rw [hnm,M7.plc_pre _ _ _ _ (by omega)] at this
      exact this
    rcases get_snoc hg with h1 | ⟨h1,h2⟩
    · exact key g (get_pre (get_pre h1))
    · subst h2
      have:=key p (get_pre (by rw [h1,List.getElem?_append_right (Nat.le_refl _),Nat.sub_self]; rfl))
      rw [hn,hname]
      exact this
  · intro nm
    show _ = decide (M7.plc _ nm (s.d - 1) ≠ 0) ∧ _
    have e1 : s.d - 1 = A.length:=by omega
    have e2 : s.d = A.length + 1:=by omega
    obtain ⟨m1,m2⟩:=h.map nm
    have hnx : f.nx = M7.plc (namesW (A ++ [p'])) f.x.name A.length:=by
      have:=h.nxt A.length f h.at_last
      rw [hnm,M7.plc_pre _ _ _ _ (by omega)] at this
      exact this
    rw [hnm,e2,← hle,M7.plc_snoc] at m1 m2
    rw [e1,← hle]
    rw [← hle] at hnx
    by_cases he : f.x.name.data.toList = nm.data.toList
    · have hkk : keyN nm = keyN f.x.name:=by unfold keyN; rw [he]
      have hpp : M7.plc (namesW (A ++ [p'])) nm (namesW (A ++ [p'])).length = f.nx:=by
        rw [hnx]
        clear m1 m2 hnx
        generalize (namesW (A ++ [p'])).length = k
        induction k with
        | zero => rfl
        | succ k ih => rw [M7.plc,M7.plc,ih,he]
      rw [hpp,hkk]
      unfold shutD
      split
      · rename_i h0
        rw [h0]
        exact ⟨by rw [has_del_same]; rfl,by rw [atKey_del_same]; rfl⟩
      · rename_i h0
        exact ⟨by rw [has_put_same hm (keyN_is _)]; simp [h0],by rw [atKey_put_same hm (keyN_is _)]⟩
    · have hne : keyN nm ≠ keyN f.x.name:=keyN_ne (fun e => he e.symm)
      rw [if_neg he] at m1 m2
      unfold shutD
      split
      · exact ⟨by rw [has_del_other hne]; exact m1,by rw [atKey_del_other hne]; exact m2⟩
      · exact ⟨by rw [has_put_other hne]; exact m1,by rw [atKey_put_other hne]; exact m2⟩
  · have:=h.fsq
    simp at this ⊢; omega
  · have:=h.nq
    simp at this ⊢; omega
  · simp
theorem BInv.add {f' : FV} {x : Nd} {c : Nat} (h : BInv (A ++ [f]) tx n D s q) (hx : f'.x = M7.wk f.x (f.x.kids ++ M7.endK tx ++ [x])) (hn : f'.nx = f.nx) (ht : M3.isText x = false) (hw : M3.weight [x] ≤ c) (_h1c : 1 ≤ c) : BInv (A ++ [f']) [] n D ⟨M7.putN s.d x s.L,s.d⟩ (q + c):=by
  have hname : f'.x.name = f.x.name:=by rw [hx]; rfl
  have hnm : namesW (A ++ [f']) = namesW (A ++ [f]):=namesW_last A f f' hname
  have hlen:=h.len
  have hroot : ∀ g,(A ++ [f'])[0]? = some g → g.x.attrs = []:=fun g hg => by
    rcases get_snoc hg with h1 | ⟨h1,h2⟩
    · exact h.root g (get_pre h1)
    · subst h2
      rw [hx]
      exact h.root f (by rw [h1,List.getElem?_append_right (Nat.le_refl _),Nat.sub_self]; rfl)
  refine ⟨by simpa using hlen,?_,?_,?_,?_,?_,?_,?_,by simp,?_,hroot⟩
  · show M7.putN s.d x s.L = _
    rw [h.is.2.2.2 x,M7.push_node x ht,List.map_append,List.map_cons,List.map_nil,M7.tr_split _ f'.x,hx,M7.endK_nil]
    show _ = M7.tr (A.map FV.x ++ [M7.wk (M7.wk f.x _) []]) ((f.x.kids ++ M7.endK tx ++ [x]) ++ [])
    rw [List.append_nil,wk_wk]
  · intro j g hg
    rcases get_snoc hg with h1 | ⟨h1,h2⟩
    · exact h.el j g (get_pre h1)
    · subst h2
      have:=h.el j f (by rw [h1,List.getElem?_append_right (Nat.le_refl _),Nat.sub_self]; rfl)
      rw [hx]; exact this
  · intro B g e
    obtain ⟨rfl,e2⟩:=List.append_inj' e rfl
    have : f' = g:=by simpa using e2
    subst this
    rw [hx]
    exact M7.noTx_snoc ht
  · intro j g hg
    rw [hnm]
    rcases get_snoc hg with h1 | ⟨h1,h2⟩
    · exact h.nxt j g (get_pre h1)
    · subst h2
      rw [hn,hname]
      exact h.nxt j f (by rw [h1,List.getElem?_append_right (Nat.le_refl _),Nat.sub_self]; rfl)
  · intro nm
    rw [hnm]
    exact h.map nm
  · have:=h.fsq; simp at this ⊢; omega
  · have:=h.nq; simp at this ⊢; omega
  · have:=M7.weight_put x h.is.1
    have:=h.wq
    show M3.weight (M7.putN s.d x s.L) ≤ _
    omega
theorem BInv.chars {t : Tok} {c : Nat} (h : BInv fs tx n D s q) (ht : 1 + t.text.size ≤ c) : BInv fs (tx ++ t.text.data.toList) n D ⟨M7.putN s.d (M7.txT t) s.L,s.d⟩ (q + c):=by
  obtain ⟨A,f,rfl⟩:=h.snoc
  refine ⟨h.len,?_,h.el,h.notx,h.nxt,h.map,?_,?_,?_,?_,h.root⟩
  · show M7.putN s.d _ s.L = _
    rw [h.is.2.2.2,M7.push_more (h.notx A f rfl) tx t.text.data.toList (M7.txT t) (by unfold M7.txT; simp),List.map_append,List.map_cons,List.map_nil,M7.tr_split _ f.x]
  · have:=h.fsq; omega
  · have:=h.nq; omega
  · have:=h.tq
    rw [List.length_append]
    have e : t.text.data.toList.length = t.text.size:=rfl
    omega
  · have h1:=M7.weight_put (M7.txT t) h.is.1
    have h2:=h.wq
    have h3 : M3.weight [M7.txT t] = 1:=by rw [M3.weight_cons,M3.weight_nil]; show 1 + 0 + M3.weight [] + 0 = 1; rw [M3.weight_nil]
    show M3.weight (M7.putN s.d _ s.L) ≤ _
    omega
theorem BInv.push {f' e : FV} {t : Tok} {n' c : Nat} (h : BInv (A ++ [f]) tx n D s q) (hm : IsMap D) (hx : f'.x = M7.wk f.x (f.x.kids ++ M7.endK tx)) (hn : f'.nx = f.nx) (he : e.x = M7.elT t) (hen : e.nx = M7.plc (namesW (A ++ [f])) t.name s.d) (hts : t.name.size ≤ 1048576) (hta : 1 + t.attrs.length ≤ c) (hn' : n' ≤ n + 1) :
    BInv ((A ++ [f']) ++ [e]) [] n' (D.put (keyN t.name) (.lit (.int .i64 ((A.length + 1 : Nat) : Int)))) ⟨M7.putN s.d (M7.elT t) s.L,s.d + 1⟩ (q + c):=by
  have hname : f'.x.name = f.x.name:=by rw [hx]; rfl
  have hnm1 : namesW (A ++ [f']) = namesW (A ++ [f]):=namesW_last A f f' hname
  have hen2 : e.x.name = t.name:=by rw [he]; rfl
  have hnm : namesW ((A ++ [f']) ++ [e]) = namesW (A ++ [f]) ++ [t.name]:=by rw [namesW_snoc (by simp),hnm1,hen2]
  have hd:=h.d
  have hle : (namesW (A ++ [f])).length = A.length:=by rw [namesW_len]; simp
  have hw : M3.weight [M7.elT t] ≤ c:=by
    rw [M3.weight_cons,M3.weight_nil]
    show 1 + t.attrs.length + M3.weight [] + 0 ≤ _
    rw [M3.weight_nil]; omega
  have hroot : ∀ g,((A ++ [f']) ++ [e])[0]? = some g → g.x.attrs = []:=fun g hg => by
    rcases get_snoc hg with h1 | ⟨h1,h2⟩
    · rcases get_snoc h1 with h3 | ⟨h3,h4⟩
      · exact h.root g (get_pre h3)
      · subst h4
        rw [hx]
        exact h.root f (by rw [h3,List.getElem?_append_right (Nat.le_refl _),Nat.sub_self]; rfl)
    · simp at h1
  refine ⟨by simp; omega,?_,?_,?_,?_,?_,?_,?_,by simp,?_,hroot⟩
  · show M7.putN s.d _ s.L = _
    rw [h.is.2.2.2,M7.push_node _ (by rfl),List.map_append,List.map_append,List.map_cons,List.map_nil,List.map_cons,List.map_nil,List.append_assoc (A.map FV.x),M7.endK_nil]
    have e1:=M7.tr_shut (A.map FV.x) f'.x e.x []
    show _ = M7.tr (A.map FV.x ++ [f'.x,e.x]) []
    rw [← e1,M7.tr_split _ (M7.wk f'.x _),hx,he]
    show _ = M7.tr (A.map FV.x ++ [M7.wk (M7.wk (M7.wk f.x _) _) []]) (((f.x.kids ++ M7.endK tx) ++ [M7.el (M7.elT t) ([] ++ [])]) ++ [])
    rw [wk_wk,wk_wk]
    exact (congrArg (M7.tr _) (List.append_nil _)).symm
  · intro j g hg
    rcases get_snoc hg with h1 | ⟨h1,h2⟩
    · rcases get_snoc h1 with h3 | ⟨h3,h4⟩
      · exact h.el j g (get_pre h3)
      · subst h4
        have:=h.el j f (by rw [h3,List.getElem?_append_right (Nat.le_refl _),Nat.sub_self]; rfl)
        rw [hx]; exact this
    · subst h2
      rw [he]
      exact ⟨rfl,rfl,hts⟩
  · intro B g eq
    obtain ⟨rfl,e2⟩:=List.append_inj' eq rfl
    have : e = g:=by simpa using e2
    subst this
    rw [he]
    exact M7.noTx_nil
  · intro j g hg
    have hjl:=(List.getElem?_eq_some_iff.1 hg).1
    simp at hjl
    rw [hnm,M7.plc_pre _ _ _ _ (by omega)]
    rcases get_snoc hg with h1 | ⟨h1,h2⟩
    · rcases get_snoc h1 with h3 | ⟨h3,h4⟩
      · exact h.nxt j g (get_pre h3)
      · subst h4
        rw [hn,hname]
        exact h.nxt j f (by rw [h3,List.getElem?_append_right (Nat.le_refl _),Nat.sub_self]; rfl)
    · subst h2
      simp at h1
      rw [hen,hen2,hd,h1]
  · intro nm
    show _ = decide (M7.plc _ nm (s.d + 1) ≠ 0) ∧ _
    obtain ⟨m1,m2⟩:=h.map nm
    have e2 : s.d + 1 = (namesW (A ++ [f])).length + 1:=by omega
    have e3 : s.d = (namesW (A ++ [f])).length:=by omega
    rw [hnm,e2,M7.plc_snoc]
    rw [e3] at m1 m2
    by_cases heq : t.name.data.toList = nm.data.toList
    · have hkk : keyN nm = keyN t.name:=by unfold keyN; rw [heq]
      rw [if_pos heq,hkk,has_put_same hm (keyN_is _),atKey_put_same hm (keyN_is _),hle]
      exact ⟨by simp,rfl⟩
    · have hne : keyN nm ≠ keyN t.name:=keyN_ne (fun e => heq e.symm)
      rw [if_neg heq,has_put_other hne,atKey_put_other hne]
      exact ⟨m1,m2⟩
  · have:=h.fsq; simp at this ⊢; omega
  · have:=h.nq; simp at this ⊢; omega
  · have h1:=M7.weight_put (M7.elT t) h.is.1
    have h2:=h.wq
    show M3.weight (M7.putN s.d _ s.L) ≤ _
    omega
end
end Go.Proofs.YteefodibpjgicaaGreat
