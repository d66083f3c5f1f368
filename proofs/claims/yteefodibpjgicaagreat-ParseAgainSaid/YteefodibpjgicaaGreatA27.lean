/- Texts joined: Mod1. -/
import Derived.Test.YteefodibpjgicaaGreatA11
import Derived.Test.YteefodibpjgicaaGreatA14
import Derived.Test.YteefodibpjgicaaGreatA23
namespace Go.Proofs.YteefodibpjgicaaGreat
open Go.RowKit Go.Maps Go.WideShapes
def Txs (S : Nat → Prop) (w : World) (v : Value) (l : List ByteArray) : Prop:=Row S w 1 v l.length (l.flatMap fun s => [.string s])
def hasT (s : ByteArray) (l : List ByteArray) : Bool:=l.any fun t => s.toList == t.toList
theorem hasT_drop (s : ByteArray) (l : List ByteArray) (i : Nat) (h : i < l.length) : hasT s (l.drop i) = ((s.toList == l[i].toList) || hasT s (l.drop (i + 1))):=by
  rw [List.drop_eq_getElem_cons h]; rfl
set_option maxHeartbeats 1000000 in
theorem slIndex (S : Nat → Prop) (v : Value) (s : ByteArray) (l : List ByteArray) (w : World) (hr : Txs S w v l) :
    Calls Tryz.prog 226 #[v,.string s] w fun e w' => (∃ z : Int,e = .returned (.int .i64 z) ∧ decide (0 ≤ z) = hasT s l) ∧ w = w':=by
  obtain ⟨a,cap,rfl⟩:=Row.slice hr
  obtain ⟨_,hlc,hcm⟩:=Row.len hr
  have h0 : Hid (hasT s l = hasT s (l.drop 0)):=rfl
  obtain ⟨wo,rfl⟩ : ∃ wo : World,wo = w:=⟨_,rfl⟩
  go_enter Tryz.func226,Tryz.ntmps226
  go_wp2_with fail
  go_loopw [5,8] (fun _ u8 wr => wo = wr ∧ ∃ i : Nat,i ≤ l.length ∧ u8 = .int .i64 (i : Int) ∧ Hid (hasT s l = hasT s (l.drop i))) (fun _ u8 _ => l.length - (intOf u8).toNat)
  case atStart => exact ⟨rfl,0,by omega,rfl,h0⟩
  case round =>
    obtain ⟨rfl,i,hi,rfl,hv⟩:=hrel
    by_cases hlt : i < l.length
    · obtain ⟨b,off,rfl,_,c0⟩:=Row.atS hr i hlt
      have hd:=hv.out.trans (hasT_drop s l i hlt)
      clear hv
      cases ht : (s.toList == l[i].toList)
      · rw [ht,Bool.false_or] at hd
        replace hd:=Lib.hid hd
        generalize l[i] = t at *
        go_wp2_with fail
        go_roundw
        case rel => exact ⟨trivial,i + 1,by omega,by go_num,hd⟩
        case measure => exact meas_nat hlt
      · rw [ht,Bool.true_or] at hd
        replace hd:=Lib.hid hd
        generalize l[i] = t at *
        go_wp2_with fail
        go_ret
        exact ⟨⟨_,rfl,by rw [hd.out]; simp⟩,rfl⟩
    · obtain rfl : i = l.length:=by omega
      have hd:=hv.out
      rw [List.drop_length] at hd
      replace hd:=Lib.hid hd
      clear hv
      go_wp2_with fail
      go_ret
      exact ⟨⟨_,rfl,by rw [hd.out]; rfl⟩,rfl⟩
theorem slContains (S : Nat → Prop) (v : Value) (s : ByteArray) (l : List ByteArray) (w : World) (hr : Txs S w v l) :
    Calls Tryz.prog 224 #[v,.string s] w fun e w' => e = .returned (.bool (hasT s l)) ∧ w = w':=by
  have hI:=Lib.hid (slIndex S v s l w hr)
  obtain ⟨wo,rfl⟩ : ∃ wo : World,wo = w:=⟨_,rfl⟩
  go_enter Tryz.func224,Tryz.ntmps224
  go_wp2_with fail
  refine hI.out.mono ?_
  rintro e w1 ⟨⟨z,rfl,hz⟩,rfl⟩
  replace hz:=Lib.hid hz
  go_wp2_with fail
  go_ret
  exact ⟨by rw [← hz.out]; rfl,rfl⟩
abbrev heldR : Value → Option (DataW Value × List MemPlace):=fun v => some (.held v,[])
theorem Txs.keep {S S' : Nat → Prop} {w w' : World} {v : Value} {l : List ByteArray} (h : Txs S w v l) (hk : ∀ b,S b → w'.heap[b]? = w.heap[b]?) (hs : ∀ b,S b → S' b) : Txs S' w' v l:=Row.mono (Row.keep h hk) hs
theorem txs_made (S : Nat → Prop) (w : World) (t : TypeId) (l : List ByteArray) (n : Nat) (hn : l.length = n) (h : n ≤ 1000) (hS : S w.heap.size) : Txs S (w.alloc (.cells (l.map Value.string).toArray t)) (.slice (some ⟨w.heap.size,0,none⟩) n n) l:=by
  subst hn
  have e : l.flatMap (fun s => [Value.string s]) = l.map Value.string:=(List.map_eq_flatMap).symm
  refine ⟨by rw [e]; simp,some ⟨w.heap.size,0,none⟩,l.length,rfl,Nat.le_refl _,by omega,(fun h => nomatch h),fun _ => ⟨w.heap.size,0,rfl,hS,fun j u hj => ?_⟩⟩
  rw [e] at hj
  rw [World.cell?_alloc_at _ _ _ _ rfl]
  simpa using hj
def CloSt (w wa : World) (n : Nat) (D : DataW Value) : Prop:=wa.ownsMap Tryz.prog 9 heldR w.heap.size n D ∧ Below w.heap.size w wa ∧ w.heap.size < wa.heap.size
def TxsK (w wa : World) (v : Value) (l : List ByteArray) : Prop:=Txs (fun b => w.heap.size < b ∧ b < wa.heap.size) wa v l
theorem clo_step {w wa : World} {n : Nat} {D : DataW Value} (h : CloSt w wa n D) (hn : n < 100) (key : List UInt8) (hk : key.length ≤ 100) (ts : List ByteArray) (k : Nat) (hl : ts.length = k) (hl2 : k ≤ 100) :
    ∃ wb,(Instr.mapUpdate 209 (.map (some w.heap.size)) (.string ⟨key.toArray⟩) (.slice (some ⟨wa.heap.size,0,none⟩) k k)).run Tryz.prog (wa.alloc (.cells (ts.map Value.string).toArray 9)) = .ok () wb ∧
      CloSt w wb (n + 1) (D.put (.string key) (.held (.slice (some ⟨wa.heap.size,0,none⟩) k k))) ∧ TxsK w wb (.slice (some ⟨wa.heap.size,0,none⟩) k k) ts ∧ (∀ v l,TxsK w wa v l → TxsK w wb v l):=by
  obtain ⟨ho,hb,hz⟩:=h
  have ho2:=ho.alloc (.cells (ts.map Value.string).toArray 9)
  obtain ⟨wb,r1,r2,r3⟩:=ho2.update lawS Tryz.underlying209 (by unfold maxLen; omega) (WideMaps.keyOf_string_mk Tryz.underlying9 (s:=⟨key.toArray⟩) (by unfold maxLen; show key.length ≤ _; omega)) (val:=.slice (some ⟨wa.heap.size,0,none⟩) k k) (R:=heldR) rfl
  have hsz : (wa.alloc (.cells (ts.map Value.string).toArray 9)).heap.size = wa.heap.size + 1:=by simp
  have hzb:=r3.size
  have hb1:=hb.alloc (by omega) (.cells (ts.map Value.string).toArray 9)
  refine ⟨wb,r1,⟨r2,hb1.grown r3 (by omega) (fun k hk => by cases hk; exact Nat.le_refl _),by omega⟩,?_,fun v l hv => ?_⟩
  · refine Txs.keep (txs_made (fun b => w.heap.size < b ∧ b < wa.heap.size + 1) wa 9 ts k hl (by omega) ⟨by omega,by omega⟩) (fun b hb' => ?_) (fun b h => ⟨h.1,by omega⟩)
    exact r3.block b (by omega) (by rintro e; cases e; omega)
  · refine Txs.keep hv (fun b hb' => ?_) (fun b h => ⟨h.1,by omega⟩)
    rw [r3.block b (by omega) (by rintro e; cases e; omega)]
    exact Below.heap_alloc wa _ b hb'.2
def cl_p : List ByteArray:=[⟨#[98,108,111,99,107,113,117,111,116,101]⟩,⟨#[100,105,118]⟩,⟨#[104,49]⟩,⟨#[104,50]⟩,⟨#[104,114]⟩,⟨#[108,105]⟩,⟨#[111,108]⟩,⟨#[112]⟩,⟨#[112,114,101]⟩,⟨#[116,97,98,108,101]⟩,⟨#[117,108]⟩]
def cl_li : List ByteArray:=[⟨#[108,105]⟩]
def cl_dt : List ByteArray:=[⟨#[100,100]⟩,⟨#[100,116]⟩]
def cl_dd : List ByteArray:=[⟨#[100,100]⟩,⟨#[100,116]⟩]
def cl_option : List ByteArray:=[⟨#[111,112,116,105,111,110]⟩]
def cl_td : List ByteArray:=[⟨#[116,100]⟩,⟨#[116,114]⟩]
def cl_tr : List ByteArray:=[⟨#[116,114]⟩]
def cloRow (v : Nat → Value) : List (Lit × DataW Value):=[(.string [112],.held (v 0)),(.string [108,105],.held (v 1)),(.string [100,116],.held (v 2)),(.string [100,100],.held (v 3)),(.string [111,112,116,105,111,110],.held (v 4)),(.string [116,100],.held (v 5)),(.string [116,114],.held (v 6))]
def Clo (w : World) (b : Nat) : Prop:=∃ v : Nat → Value,w.ownsMap Tryz.prog 9 heldR b 7 (rowD (cloRow v) (.map [])) ∧ Txs (fun b => b < w.heap.size) w (v 0) cl_p ∧ Txs (fun b => b < w.heap.size) w (v 1) cl_li ∧ Txs (fun b => b < w.heap.size) w (v 2) cl_dt ∧ Txs (fun b => b < w.heap.size) w (v 3) cl_dd ∧ Txs (fun b => b < w.heap.size) w (v 4) cl_option ∧ Txs (fun b => b < w.heap.size) w (v 5) cl_td ∧ Txs (fun b => b < w.heap.size) w (v 6) cl_tr
set_option maxHeartbeats 4000000 in
theorem modClosers (w : World) : Calls Tryz.prog 225 #[] w fun e w' => ∃ b,e = .returned (.map (some b)) ∧ Clo w' b ∧ Below w.heap.size w w':=by
  have b0:=(Below.refl w.heap.size w).alloc (Nat.le_refl _) (.map #[] 0)
  have c0 : CloSt w (w.alloc (.map #[] 0)) 0 (.map []):=⟨World.ownsMap_made w Tryz.prog 9 heldR,b0,by simp⟩
  have hmm:=@run_makeMap Tryz.prog 209 w
  clear b0
  generalize w.alloc (.map #[] 0) = w0 at *
  obtain ⟨w1,r1,c1,t1,k1⟩:=clo_step c0 (by decide) [112] (by decide) cl_p 11 rfl (by decide)
  simp only [cl_p,List.map_cons,List.map_nil] at r1
  obtain ⟨w2,r2,c2,t2,k2⟩:=clo_step c1 (by decide) [108,105] (by decide) cl_li 1 rfl (by decide)
  simp only [cl_li,List.map_cons,List.map_nil] at r2
  obtain ⟨w3,r3,c3,t3,k3⟩:=clo_step c2 (by decide) [100,116] (by decide) cl_dt 2 rfl (by decide)
  simp only [cl_dt,List.map_cons,List.map_nil] at r3
  obtain ⟨w4,r4,c4,t4,k4⟩:=clo_step c3 (by decide) [100,100] (by decide) cl_dd 2 rfl (by decide)
  simp only [cl_dd,List.map_cons,List.map_nil] at r4
  obtain ⟨w5,r5,c5,t5,k5⟩:=clo_step c4 (by decide) [111,112,116,105,111,110] (by decide) cl_option 1 rfl (by decide)
  simp only [cl_option,List.map_cons,List.map_nil] at r5
  obtain ⟨w6,r6,c6,t6,k6⟩:=clo_step c5 (by decide) [116,100] (by decide) cl_td 2 rfl (by decide)
  simp only [cl_td,List.map_cons,List.map_nil] at r6
  obtain ⟨w7,r7,c7,t7,k7⟩:=clo_step c6 (by decide) [116,114] (by decide) cl_tr 1 rfl (by decide)
  simp only [cl_tr,List.map_cons,List.map_nil] at r7
  have q0:=k7 _ _ (k6 _ _ (k5 _ _ (k4 _ _ (k3 _ _ (k2 _ _ (t1))))))
  have q1:=k7 _ _ (k6 _ _ (k5 _ _ (k4 _ _ (k3 _ _ (t2)))))
  have q2:=k7 _ _ (k6 _ _ (k5 _ _ (k4 _ _ (t3))))
  have q3:=k7 _ _ (k6 _ _ (k5 _ _ (t4)))
  have q4:=k7 _ _ (k6 _ _ (t5))
  have q5:=k7 _ _ (t6)
  have q6:=t7
  have hz:=c7.2.2
  have hB:=Lib.hid c7.2.1
  have hC : Hid (Clo w7 w.heap.size):=Lib.hid ⟨fun i => match i with | 0 => .slice (some ⟨w0.heap.size,0,none⟩) 11 11 | 1 => .slice (some ⟨w1.heap.size,0,none⟩) 1 1 | 2 => .slice (some ⟨w2.heap.size,0,none⟩) 2 2 | 3 => .slice (some ⟨w3.heap.size,0,none⟩) 2 2 | 4 => .slice (some ⟨w4.heap.size,0,none⟩) 1 1 | 5 => .slice (some ⟨w5.heap.size,0,none⟩) 2 2 | 6 => .slice (some ⟨w6.heap.size,0,none⟩) 1 1 | _ => undef,c7.1,Txs.keep q0 (fun _ _ => rfl) (fun b h => h.2),Txs.keep q1 (fun _ _ => rfl) (fun b h => h.2),Txs.keep q2 (fun _ _ => rfl) (fun b h => h.2),Txs.keep q3 (fun _ _ => rfl) (fun b h => h.2),Txs.keep q4 (fun _ _ => rfl) (fun b h => h.2),Txs.keep q5 (fun _ _ => rfl) (fun b h => h.2),Txs.keep q6 (fun _ _ => rfl) (fun b h => h.2)⟩
  clear c0 c1 c2 c3 c4 c5 c6 c7 t1 t2 t3 t4 t5 t6 t7 k1 k2 k3 k4 k5 k6 k7 q0 q1 q2 q3 q4 q5 q6
  go_enter Tryz.func225,Tryz.ntmps225
  go_wp2
  go_ret
  exact ⟨_,rfl,hC.out,hB.out⟩
def closedT (o : List UInt8) : List ByteArray :=
  if o = [112] then cl_p else if o = [108,105] then cl_li else if o = [100,116] then cl_dt else if o = [100,100] then cl_dd else if o = [111,112,116,105,111,110] then cl_option else if o = [116,100] then cl_td else if o = [116,114] then cl_tr else []
theorem closedT_map (o : List UInt8) : closedT o = (M6.closedL o).map fun l => ⟨l.toArray⟩:=by
  unfold closedT M6.closedL
  by_cases h_p : o = [112]
  · subst h_p; rfl
  by_cases h_li : o = [108,105]
  · subst h_li; rfl
  by_cases h_dt : o = [100,116]
  · subst h_dt; rfl
  by_cases h_dd : o = [100,100]
  · subst h_dd; rfl
  by_cases h_option : o = [111,112,116,105,111,110]
  · subst h_option; rfl
  by_cases h_td : o = [116,100]
  · subst h_td; rfl
  by_cases h_tr : o = [116,114]
  · subst h_tr; rfl
  simp only [h_p,h_li,h_dt,h_dd,h_option,h_td,h_tr,if_false,or_self]
  rfl
theorem hasT_map (s : ByteArray) (l : List (List UInt8)) : hasT s (l.map fun x => ⟨x.toArray⟩) = l.contains s.data.toList:=by
  induction l with
  | nil => rfl
  | cons x r ih =>
    rw [List.map_cons,List.contains_cons,← ih]
    show ((s.toList == (⟨x.toArray⟩ : ByteArray).toList) || hasT s _) = _
    rw [Lib.toList_data,Lib.toList_data]
theorem hasT_closed (s : ByteArray) (o : List UInt8) : hasT s (closedT o) = M6.closesB o s.data.toList:=by
  rw [closedT_map,hasT_map]; rfl
theorem clo_look {w : World} {b : Nat} (h : Clo w b) (s : ByteArray) (hs : s.size ≤ 9223372036854775807) :
    ∃ v,(Instr.lookup 209 (.map (some b)) (.string s) false).run Tryz.prog w = .ok v w ∧ Txs (fun b => b < w.heap.size) w v (closedT s.data.toList):=by
  obtain ⟨v,ho,t0,t1,t2,t3,t4,t5,t6⟩:=h
  obtain ⟨x,ps,hr,hx⟩:=ho.lookup lawS Tryz.underlying209 (z:=.slice none 0 0) (Tryz.zeroValue92 _) (R:=heldR) rfl (WideMaps.keyOf_string_mk Tryz.underlying9 (s:=s) (by unfold maxLen; omega))
  refine ⟨x,hr,?_⟩
  have hx1 : DataW.held x = (rowD (cloRow v) (.map [])).atKey (.string s.data.toList) (.held (.slice none 0 0)):=by
    have:=hx
    simp only [heldR,Option.some.injEq,Prod.mk.injEq] at this
    exact this.1
  have hk : ∀ p ∈ cloRow v,WideAt.IsKeyLit p.1:=by
    intro p hp
    simp only [cloRow,List.mem_cons,List.not_mem_nil,or_false] at hp
    rcases hp with rfl | rfl | rfl | rfl | rfl | rfl | rfl <;> exact trivial
  have hd : (cloRow v).Pairwise (fun p q => p.1 ≠ q.1):=by simp [cloRow]
  have hat:=fun p hp => rowD_at (cloRow v) (.map []) (.held (.slice none 0 0)) p isMap_empty hk hd hp
  unfold closedT
  by_cases h_p : s.data.toList = [112]
  · have hp:=hat (.string [112],.held (v 0)) (by simp [cloRow])
    rw [h_p,hp] at hx1
    cases hx1
    rw [h_p]
    exact t0
  by_cases h_li : s.data.toList = [108,105]
  · have hp:=hat (.string [108,105],.held (v 1)) (by simp [cloRow])
    rw [h_li,hp] at hx1
    cases hx1
    rw [h_li]
    exact t1
  by_cases h_dt : s.data.toList = [100,116]
  · have hp:=hat (.string [100,116],.held (v 2)) (by simp [cloRow])
    rw [h_dt,hp] at hx1
    cases hx1
    rw [h_dt]
    exact t2
  by_cases h_dd : s.data.toList = [100,100]
  · have hp:=hat (.string [100,100],.held (v 3)) (by simp [cloRow])
    rw [h_dd,hp] at hx1
    cases hx1
    rw [h_dd]
    exact t3
  by_cases h_option : s.data.toList = [111,112,116,105,111,110]
  · have hp:=hat (.string [111,112,116,105,111,110],.held (v 4)) (by simp [cloRow])
    rw [h_option,hp] at hx1
    cases hx1
    rw [h_option]
    exact t4
  by_cases h_td : s.data.toList = [116,100]
  · have hp:=hat (.string [116,100],.held (v 5)) (by simp [cloRow])
    rw [h_td,hp] at hx1
    cases hx1
    rw [h_td]
    exact t5
  by_cases h_tr : s.data.toList = [116,114]
  · have hp:=hat (.string [116,114],.held (v 6)) (by simp [cloRow])
    rw [h_tr,hp] at hx1
    cases hx1
    rw [h_tr]
    exact t6
  · rw [rowD_other (cloRow v) _ _ _ (by intro p hp; simp only [cloRow,List.mem_cons,List.not_mem_nil,or_false] at hp; rcases hp with rfl | rfl | rfl | rfl | rfl | rfl | rfl <;> (intro e; simp only [Lit.string.injEq] at e; exact absurd e.symm (by assumption)))] at hx1
    have e : x = .slice none 0 0:=by cases hx1; rfl
    rw [e,if_neg h_p,if_neg h_li,if_neg h_dt,if_neg h_dd,if_neg h_option,if_neg h_td,if_neg h_tr]
    exact Row.nil _ _ _
set_option maxHeartbeats 1000000 in
theorem modCloses (o b : ByteArray) (w : World) (ho : o.size ≤ 9223372036854775807) : Calls Tryz.prog 219 #[.string o,.string b] w fun e w' => e = .returned (.bool (M6.closesB o.data.toList b.data.toList)) ∧ Below w.heap.size w w':=by
  have hC:=Lib.hid (modClosers w)
  have hL:=Lib.hid (fun (w1 : World) (m : Nat) (h : Clo w1 m) => clo_look h o ho)
  rw [← hasT_closed]
  obtain ⟨wo,rfl⟩ : ∃ wo : World,wo = w:=⟨_,rfl⟩
  go_enter Tryz.func219,Tryz.ntmps219
  go_wp2_with fail
  refine hC.out.mono ?_
  rintro e w1 ⟨m,rfl,hc,hb⟩
  obtain ⟨v,r,ht⟩:=hL.out w1 m hc
  have hK:=Lib.hid (slContains _ v b _ w1 ht)
  go_wp2_with fail
  refine hK.out.mono ?_
  rintro e w2 ⟨rfl,rfl⟩
  go_wp2_with fail
  go_ret
  exact ⟨rfl,hb⟩
end Go.Proofs.YteefodibpjgicaaGreat
