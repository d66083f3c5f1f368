/- Texts joined: Bld0, Math3m, Math6. -/
import Derived.Lib.FrozenHead
import Derived.Shelf.RegionOpenPlain
import Derived.Lib.Builder
import Derived.Lib.UnsafeStr
import Derived.Test.YteefodibpjgicaaGreatA2
import Derived.Test.YteefodibpjgicaaGreatA6
import Derived.Test.YteefodibpjgicaaGreatA8
import Derived.Test.YteefodibpjgicaaGreatA10
namespace Go.Proofs.YteefodibpjgicaaGreat
open Go.RowKit
theorem sizeB7 : (Tryz.prog.info? 120).map (·.size) = some 2:=by kernel_rfl
theorem infoU87 : (Tryz.prog.info? 5).map (fun i => (i.zero,i.size,i.bytes)) = some (some (.int .u8 0),1,1):=by kernel_rfl
theorem bxLen (g : Nat) (a : Option Addr) (n cap : Nat) (w : World) (h1 : w.cell? ⟨g,2,none⟩ = some (.slice a n cap)) :
    Calls Tryz.prog 208 #[.pointer (some ⟨g,1,none⟩)] w fun e w' => e = .returned (.int .i64 (n : Int)) ∧ w = w':=by
  go_enter Tryz.func208,Tryz.ntmps208
  go_wp2_with fail
  go_ret
  exact ⟨rfl,rfl⟩
theorem bxReset (g : Nat) (c0 p v c3 : Value) (w : World) (hb : Box w g 193 [c0,p,v,c3]) :
    Calls Tryz.prog 200 #[.pointer (some ⟨g,1,none⟩)] w fun e w' => e = .returned (.tuple #[]) ∧ w' = (w.setCell ⟨g,1,none⟩ (.pointer none)).setCell ⟨g,2,none⟩ (.slice none 0 0):=by
  have k1:=hb.cell (i:=1) rfl
  have k2:=hb.cell (i:=2) rfl
  have fz:=hb.free
  go_enter Tryz.func200,Tryz.ntmps200
  go_wp2_with fail
  go_end0
  exact ⟨rfl,rfl⟩
set_option maxHeartbeats 2000000 in
set_option maxRecDepth 100000 in
theorem bxCheck (g : Nat) (c0 p v c3 : Value) (w : World) (hb : Box w g 193 [c0,p,v,c3]) (hp : p = .pointer none ∨ p = .pointer (some ⟨g,1,none⟩)) :
    Calls Tryz.prog 114 #[.pointer (some ⟨g,1,none⟩)] w fun e w' => e = .returned (.tuple #[]) ∧ Box w' g 193 [c0,.pointer (some ⟨g,1,none⟩),v,c3] ∧ (w' = w ∨ w' = w.setCell ⟨g,1,none⟩ (.pointer (some ⟨g,1,none⟩))):=by
  obtain ⟨j,hj,hjs⟩:=Option.map_eq_some_iff.1 sizeB7
  have k1:=hb.cell (i:=1) rfl
  have fz:=hb.free
  have hsh : w.shape? g = some (193,4):=by unfold World.shape?; rw [hb]; rfl
  have hb':=hb.set 1 (.pointer (some ⟨g,1,none⟩))
  rcases hp with rfl | rfl
  · go_enter Tryz.func114,Tryz.ntmps114
    go_wp2
    rw [Lib.run_to_unsafe w ⟨g,1,none⟩ Tryz.underlying118 Tryz.underlying131 hj (by rw [hjs]; decide) hsh (by show (1:Nat) < 4; omega)]
    simp only [Result.andThen]
    rw [Oper.upon_value]
    go_wp2
    rw [run_callFunc_extern Tryz.func122 (by kernel_rfl) (by kernel_rfl) (by kernel_rfl) (e:=Extern.AbiNoEscape.same) (by kernel_rfl)]
    rw [Lib.run_noEscape]
    simp only [Result.andThen]
    rw [Oper.upon_value]
    go_wp2
    rw [Lib.run_from_unsafe w ⟨g,1,none⟩ Tryz.underlying131 Tryz.underlying118 hj hsh (by kernel_rfl)]
    simp only [Result.andThen]
    rw [Oper.upon_value]
    go_wp2
    go_end0
    exact ⟨rfl,hb',.inr rfl⟩
  · go_enter Tryz.func114,Tryz.ntmps114
    go_wp2
    rw [Lib.run_neq_ptr_same w _ Tryz.underlying118 hj]
    go_wp2
    go_end0
    exact ⟨rfl,hb,.inl rfl⟩
def Turned (g : Nat) (r : Option Nat) (w w' : World) : Prop:=w'.os = w.os ∧ w'.tape = w.tape ∧ w'.output = w.output ∧ w.heap.size ≤ w'.heap.size ∧ ∀ b,b < w.heap.size → b ≠ g → r ≠ some b → w'.heap[b]? = w.heap[b]?
theorem wpList_appS {P : Program} {ops : Array Oper} {rest : List Oper} {o : Oper} {a : Act} {Q : Exit → Act → World → Prop} (w : World) (hgd : o.guard = none) (sl x : Operand) (t u : TypeId)
    (ho : o.op = .call { callee:=.builtin .append,args:=#[sl,x],argTypes:=#[t,u] })
    (e : TypeId) (ht : P.underlying t = some (.slice e)) (hu : P.underlying u = some .string) (hinfo : (P.info? e).map (fun i => (i.zero,i.size,i.bytes)) = some (some (.int .u8 0),1,1))
    (v : Value) (n : Nat) (xs : List Value) (hs : a.eval sl = v) (hown : w.ownsRowF 0 e 1 v n xs) (s : ByteArray) (hx : a.eval x = .string s) (hbytes : n + s.size ≤ 140737488355328)
    (h : ∀ v' w',w'.ownsRowF 0 e 1 v' (n + s.size) (xs ++ Lib.strCells s) → w.grownBy w' v.ownBlock → (∀ c,v'.ownBlock = some c → v.ownBlock = some c ∨ w.heap.size ≤ c) → wpList P ops Q rest (a.put o.dst v') w') : wpList P ops Q (o :: rest) a w:=by
  obtain ⟨i,hi,hz,hsize,hby⟩:=info_parts hinfo
  refine wpList_plain hgd fun K hK => ?_
  have h63 : n + s.size ≤ maxLen:=by unfold maxLen; omega
  obtain ⟨v',w',hr,h2,h3,_⟩:=Lib.run_append_own_stringF (P:=P) w 0 t u o.type e i ht hu hi hz hsize hby v n xs hown s h63 hbytes (Nat.zero_le _)
  have hat : ∀ c,v'.ownBlock = some c → v.ownBlock = some c ∨ w.heap.size ≤ c:=by
    intro c hc
    rcases hown.2 with ⟨rfl,rfl⟩ | ⟨g,cap,cur,fz,rfl,_,hg,hfz,hnc,hcm,hcs,htake⟩
    · obtain ⟨v'',w'',hr',h2',_⟩:=Lib.run_append_own_stringF (P:=P) w w.heap.size t u o.type e i ht hu hi hz hsize hby (.slice none 0 0) 0 xs ⟨hown.1,.inl ⟨rfl,rfl⟩⟩ s h63 hbytes (Nat.le_refl _)
      have e1:=hr.symm.trans hr'
      injection e1 with e1 e2
      subst e1
      exact .inr (h2'.lt c hc).1
    · by_cases hroom : n + s.size ≤ cap
      · have hr':=Lib.run_append_room_stringF (P:=P) w t u o.type e i ht hu hi hsize g n cap cur fz hg (by simpa using hfz) s hroom (by omega)
        have e1:=hr.symm.trans hr'
        injection e1 with e1 e2
        subst e1
        exact .inl hc
      · have hxl : xs.length = n:=by simpa using hown.1
        have holds : ∀ j u,xs[j]? = some u → w.cell? ((⟨g,0,none⟩ : Addr).add j) = some u:=hown.cells (g:=g) rfl
        have hr':=Lib.run_append_grow_string (P:=P) w t u o.type e i (.int .u8 0) ht hu hi hz ⟨g,0,none⟩ n cap xs (by rw [hsize]; simpa using hxl) holds s (by omega) (by unfold maxLen at h63; omega) (by rw [hby]; exact growslice_fits (by omega) (by omega))
        have e1:=hr.symm.trans hr'
        injection e1 with e1 e2
        subst e1
        have : w.heap.size = c:=by simpa [Value.ownBlock] using hc
        exact .inr (by omega)
  unfold Oper.wp execOp
  simp only [ho,resolve,invoke,builtin,Sem.run_bind,Sem.run_pure,Result.andThen_ok,List.map_toArray,List.map_cons,List.map_nil,hs,hx,hr]
  exact hK _ _ (h v' w' h2 h3 hat)
set_option maxHeartbeats 4000000 in
set_option maxRecDepth 100000 in
theorem bxWrite (g : Nat) (c0 p v c3 : Value) (tx : List UInt8) (s : ByteArray) (w : World) (hb : Box w g 193 [c0,p,v,c3]) (hp : p = .pointer none ∨ p = .pointer (some ⟨g,1,none⟩)) (hown : w.ownsRowF 0 5 1 v tx.length (u8s tx)) (hne : v.ownBlock ≠ some g) (hlen : tx.length + s.size ≤ 140737488355328) :
    Calls Tryz.prog 106 #[.pointer (some ⟨g,1,none⟩),.string s] w fun e w' => e = .returned (.tuple #[.int .i64 s.size,.nilIface]) ∧ ∃ v',Box w' g 193 [c0,.pointer (some ⟨g,1,none⟩),v',c3] ∧ w'.ownsRowF 0 5 1 v' (tx ++ s.data.toList).length (u8s (tx ++ s.data.toList)) ∧ (∀ c,v'.ownBlock = some c → v.ownBlock = some c ∨ w.heap.size ≤ c) ∧ Turned g v.ownBlock w w':=by
  obtain ⟨i0,hi,hz0,hz1,hz2⟩:=info_parts infoU87
  have hgl:=hb.lt
  obtain ⟨av,cv,rfl⟩ : ∃ a c,v = .slice a tx.length c:=by
    rcases hown.2 with ⟨rfl,h0⟩ | ⟨g',cap,cur,fz,rfl,_⟩
    · exact ⟨none,0,by rw [h0]⟩
    · exact ⟨_,_,rfl⟩
  go_enter Tryz.func106,Tryz.ntmps106
  go_wp2_with (go_at_call 114; refine (bxCheck g c0 p _ c3 _ hb hp).mono ?_)
  rintro e w1 ⟨rfl,hb1,hw1⟩
  have hT1 : w1.os = w.os ∧ w1.tape = w.tape ∧ w1.output = w.output ∧ w1.heap.size = w.heap.size ∧ ∀ b,b ≠ g → w1.heap[b]? = w.heap[b]?:=by
    rcases hw1 with rfl | rfl
    · exact ⟨rfl,rfl,rfl,rfl,fun _ _ => rfl⟩
    · exact ⟨rfl,rfl,rfl,by simp,fun b hb => Below.heap_setCell _ _ _ _ hb⟩
  have hown1 : w1.ownsRowF 0 5 1 (.slice av tx.length cv) tx.length (u8s tx):=by
    refine ⟨hown.1,?_⟩
    rcases hown.2 with h | ⟨g',cap,cur,fz,e,h1,h2,h3⟩
    · exact .inl h
    · refine .inr ⟨g',cap,cur,fz,e,h1,?_,h3⟩
      rw [hT1.2.2.2.2 g' (fun e2 => hne (by rw [e,e2]; rfl))]
      exact h2
  clear hw1
  have k2:=hb1.cell (i:=2) rfl
  go_wp2_with (at_builtin; refine wpList_appS _ rfl _ _ 22 9 rfl 5 Tryz.underlying22 Tryz.underlying9 infoU87 _ _ _ rfl hown1 s rfl hlen ?_)
  intro v' w2 hown' hgrow hat
  have hb2 : Box w2 g 193 [c0,.pointer (some ⟨g,1,none⟩),.slice av tx.length cv,c3]:=hb1.keep (hgrow.block g hb1.lt (fun e => hne e.symm))
  have d2:=hb2.cell (i:=2) rfl
  have f1:=hb2.free
  obtain ⟨ao,n',cap,rfl⟩ : ∃ ao n' cap,v' = .slice ao n' cap:=by
    rcases hown'.2 with ⟨hv,_⟩ | ⟨g,cap,cur,fz,hv,_⟩
    · exact ⟨_,_,_,hv⟩
    · exact ⟨_,_,_,hv⟩
  have hb3:=hb2.set 2 (.slice ao n' cap)
  have hgl1:=hb1.lt
  have hv' : ∀ c,(Value.slice ao n' cap).ownBlock = some c → (Value.slice av tx.length cv).ownBlock = some c ∨ w.heap.size ≤ c:=fun c hc => by
    have h:=hat c hc
    have e:=hT1.2.2.2.1
    rcases h with h | h
    · exact .inl h
    · exact .inr (by omega)
  have hne' : (Value.slice ao n' cap).ownBlock ≠ some g:=fun e => by
    rcases hv' g e with h | h
    · exact hne h
    · omega
  have hown3 : (w2.setCell ⟨g,2,none⟩ (.slice ao n' cap)).ownsRowF 0 5 1 (.slice ao n' cap) (tx ++ s.data.toList).length (u8s (tx ++ s.data.toList)):=by
    have e1 : (tx ++ s.data.toList).length = tx.length + s.size:=by rw [List.length_append]; rfl
    have e2 : u8s (tx ++ s.data.toList) = u8s tx ++ Lib.strCells s:=by rw [u8s_append]; rfl
    rw [e1,e2]
    exact hown'.kept (row:=some g) ⟨rfl,rfl,rfl,by simp,fun k _ hk => Below.heap_setCell _ _ _ _ (fun e => hk (by rw [e]))⟩ (Or.inr hne')
  have hT : Turned g (Value.slice av tx.length cv).ownBlock w (w2.setCell ⟨g,2,none⟩ (.slice ao n' cap)):=by
    refine ⟨hgrow.os.trans hT1.1,hgrow.tape.trans hT1.2.1,hgrow.output.trans hT1.2.2.1,?_,fun b hb hbg hbr => ?_⟩
    · have:=hgrow.size
      simp
      rw [hT1.2.2.2.1] at this
      exact this
    · rw [Below.heap_setCell _ _ _ _ hbg,hgrow.block b (by rw [hT1.2.2.2.1]; exact hb) (fun e => hbr e.symm),hT1.2.2.2.2 b hbg]
  clear hown hown1 hown' hgrow hat hb2 hb1
  replace hown3:=Lib.hid hown3
  replace hT:=Lib.hid hT
  replace hb3:=Lib.hid hb3
  replace hv':=Lib.hid hv'
  go_wp2_with fail
  go_ret2
  exact ⟨rfl,_,hb3.out,hown3.out,hv'.out,hT.out⟩
set_option maxHeartbeats 4000000 in
set_option maxRecDepth 100000 in
theorem bxString (g : Nat) (c0 p v c3 : Value) (tx : List UInt8) (w : World) (hb : Box w g 193 [c0,p,v,c3]) (hown : w.ownsRowF 0 5 1 v tx.length (u8s tx)) (hne : v.ownBlock ≠ some g) (h0 : tx ≠ []) :
    Calls Tryz.prog 107 #[.pointer (some ⟨g,1,none⟩)] w fun e w' => e = .returned (.string ⟨tx.toArray⟩) ∧ Box w' g 193 [c0,p,v,c3] ∧ w'.ownsRowF 0 5 1 v tx.length (u8s tx) ∧ Turned g v.ownBlock w w' ∧ w'.heap.size = w.heap.size:=by
  have hl0 : tx.length ≠ 0:=by simpa using h0
  have hown0:=hown
  obtain ⟨k,cap,cur,fz,rfl,_,hg,hfz,hnc,hcm,hcs,htake⟩ : ∃ k cap cur fz,v = .slice (some ⟨k,0,none⟩) tx.length cap ∧ 0 ≤ k ∧ w.heap[k]? = some (.cells cur 5 fz) ∧ fz.2 ≤ tx.length * 1 ∧ tx.length ≤ cap ∧ cap ≤ maxLen ∧ cur.size = cap * 1 ∧ cur.toList.take (tx.length * 1) = u8s tx:=by
    rcases hown.2 with ⟨_,hz⟩ | ⟨k,cap,cur,fz,hv,r⟩
    · exact absurd hz hl0
    · exact ⟨k,cap,cur,fz,hv,r⟩
  have k2 : w.drew.cell? ⟨g,2,none⟩ = some (.slice (some ⟨k,0,none⟩) tx.length cap):=hb.cell (i:=2) rfl
  have hSD : (Builtin.unsafeSliceData_ #[22] 129 #[.slice (some ⟨k,0,none⟩) tx.length cap]).run Tryz.prog w.drew = .ok (.pointer (some ⟨k,0,none⟩)) w.drew :=
    Lib.run_unsafeSliceData_row _ _ _ _ _ _ (by omega)
  have hUS : (Builtin.unsafeString_ #[129,3] 9 #[.pointer (some ⟨k,0,none⟩),.int .i64 tx.length]).run Tryz.prog w.drew = .ok (.string ⟨tx.toArray⟩) (w.drew.freeze ⟨k,0,none⟩ tx.length):=by
    refine Lib.run_unsafeString_row w.drew 129 3 9 5 Tryz.underlying129 (by kernel_rfl) k cur.size (by have hg' : w.drew.heap[k]? = some (.cells cur 5 fz):=hg; simp [World.shape?,hg']) tx h0 (by omega) (by unfold maxLen at hcm; omega) ?_
    intro j x hx
    have:=hown.cells (g:=k) rfl j (.int .u8 x.toNat) (by simp [u8s,Lib.byteCells,hx])
    exact this
  have hkg : k ≠ g:=fun e => hne (by rw [e]; rfl)
  have hfr : ∀ b,b ≠ k → (w.drew.freeze ⟨k,0,none⟩ tx.length).heap[b]? = w.heap[b]?:=fun b hb => by
    have:=(Lib.below_freeze (B:=k) (Below.refl k w.drew) (p:=⟨k,0,none⟩) (Nat.le_refl _) tx.length)
    unfold World.freeze
    split
    · rfl
    · simp only [Array.getElem?_modify]
      rw [if_neg (fun e => hb e.symm)]
      rfl
  have hsz : (w.drew.freeze ⟨k,0,none⟩ tx.length).heap.size = w.heap.size:=by
    unfold World.freeze
    split
    · rfl
    · simp
  have hkk : ∃ fz',(w.drew.freeze ⟨k,0,none⟩ tx.length).heap[k]? = some (.cells cur 5 fz') ∧ fz'.2 ≤ tx.length * 1:=by
    have hg' : w.drew.heap[k]? = some (.cells cur 5 fz):=hg
    unfold World.freeze
    split
    · exact ⟨fz,hg',hfz⟩
    · simp only [Array.getElem?_modify,if_true,hg',Option.map_some]
      refine ⟨_,rfl,?_⟩
      obtain ⟨lo,hi⟩:=fz
      simp only at hfz ⊢
      split
      · simp
      · simp; omega
  obtain ⟨fz',hk',hfz'⟩:=hkk
  have hB : Hid (Box (w.drew.freeze ⟨k,0,none⟩ tx.length) g 193 [c0,p,.slice (some ⟨k,0,none⟩) tx.length cap,c3]):=hb.keep (hfr g (fun e => hkg e.symm))
  have hO : Hid ((w.drew.freeze ⟨k,0,none⟩ tx.length).ownsRowF 0 5 1 (.slice (some ⟨k,0,none⟩) tx.length cap) tx.length (u8s tx)):=⟨hown.1,.inr ⟨k,cap,cur,fz',rfl,Nat.zero_le _,hk',hfz',hnc,hcm,hcs,htake⟩⟩
  have hT : Hid (Turned g (Value.slice (some ⟨k,0,none⟩) tx.length cap).ownBlock w (w.drew.freeze ⟨k,0,none⟩ tx.length)):=by
    have hb:=Lib.below_freeze (B:=0) (Below.drew (Below.refl 0 w)) (p:=⟨k,0,none⟩) (Nat.zero_le _) tx.length
    exact ⟨hb.os,hb.tape,hb.output,hb.size,fun b _ _ hr => hfr b (fun e => hr (by rw [e]; rfl))⟩
  replace hsz:=Lib.hid hsz
  clear hfr hk' hown hown0
  have mixed : Tryz.prog.follows Departure.mixedOrders = true:=by kernel_rfl
  go_enter Tryz.func107,Tryz.ntmps107
  go_wp2
  go_region_o
  all_goals (go_wp2; go_ret; exact ⟨rfl,hB.out,hO.out,hT.out,hsz.out⟩)
end Go.Proofs.YteefodibpjgicaaGreat

namespace Go.Proofs.YteefodibpjgicaaGreat
namespace M3
theorem cat_data (s t : ByteArray) : (cat s t).data.toList = s.data.toList ++ t.data.toList:=by simp [cat]
theorem nilB_data' (s : ByteArray) : nilB s = s.data.toList.isEmpty:=by unfold nilB; rw [ByteArray.toList_eq]
theorem withText_text (x : Nd) (t : ByteArray) : (withText x t).text = t:=by cases x; rfl
theorem withText_kids (x : Nd) (t : ByteArray) : (withText x t).kids = x.kids:=by cases x; rfl
theorem withText_attrs (x : Nd) (t : ByteArray) : (withText x t).attrs = x.attrs:=by cases x; rfl
theorem withText_name (x : Nd) (t : ByteArray) : (withText x t).name = x.name:=by cases x; rfl
def isText (x : Nd) : Bool:=x.kind == 2
def bareB (x : Nd) : Bool:=isText x && nilB x.text
theorem bareB_iff {x : Nd} : bareB x = true ↔ x.kind = 2 ∧ nilB x.text = true:=by simp [bareB,isText]
theorem push_bare {out : List Nd} {x : Nd} (h : bareB x = true) : push out x = out:=by unfold push; rw [if_pos (bareB_iff.1 h)]
theorem push_none {x : Nd} (h : bareB x = false) : push [] x = [x]:=by
  unfold push
  rw [if_neg (by rw [← bareB_iff]; simp [h])]
  rfl
theorem push_snoc {out : List Nd} {x y : Nd} (h : bareB x = false) : push (out ++ [y]) x = if isText x && isText y then out ++ [withText y (cat y.text x.text)] else out ++ [y] ++ [x]:=by
  unfold push
  rw [if_neg (by rw [← bareB_iff]; simp [h])]
  simp [isText]
def apart : Bool → List Nd → Bool
  | _,[] => true
  | p,x :: r => !(isText x && (nilB x.text || p)) && apart (isText x) r
theorem merge_all {P : Nd → Prop} (hP : ∀ x y,P x → P y → isText x = true → isText y = true → P (withText x (cat x.text y.text))) (l : List Nd) (h : ∀ x ∈ l,P x) : ∀ x ∈ merge l,P x:=by
  have key : ∀ (l out : List Nd),(∀ x ∈ l,P x) → (∀ x ∈ out,P x) → ∀ x ∈ l.foldl push out,P x:=by
    intro l
    induction l with
    | nil => intro out _ ho; exact ho
    | cons x r ih =>
      intro out hl ho
      rw [List.foldl_cons]
      refine ih _ (fun z hz => hl z (by simp [hz])) ?_
      have hx:=hl x (by simp)
      cases hb : bareB x
      · rcases List.eq_nil_or_concat out with rfl | ⟨o,y,rfl⟩
        · rw [push_none hb]; simpa using hx
        · rw [List.concat_eq_append] at ho ⊢
          rw [push_snoc hb]
          split
          · rename_i hc
            simp at hc
            intro z hz
            rcases List.mem_append.1 hz with hz | hz
            · exact ho z (by simp [hz])
            · simp at hz; subst hz
              exact hP y x (ho y (by simp)) hx hc.2 hc.1
          · intro z hz
            rcases List.mem_append.1 hz with hz | hz
            · exact ho z hz
            · simp at hz; subst hz; exact hx
      · rw [push_bare hb]; exact ho
  exact key l [] h (fun x hx => by cases hx)
def okP (x : Nd) : Prop:=if isText x then plainB x = true ∧ M1.isB x.text.data.toList = true else oneE x false = 0 ∧ mayE false x.kids = 0
end M3
end Go.Proofs.YteefodibpjgicaaGreat

namespace Go.Proofs.YteefodibpjgicaaGreat
namespace M6
open M3 (isText okP withText cat merge apart mayE oneE nilB)
def closedL (o : List UInt8) : List (List UInt8) :=
  if o = [112] then [[98,108,111,99,107,113,117,111,116,101],[100,105,118],[104,49],[104,50],[104,114],[108,105],[111,108],[112],[112,114,101],[116,97,98,108,101],[117,108]]
  else if o = [108,105] then [[108,105]]
  else if o = [100,116] ∨ o = [100,100] then [[100,100],[100,116]]
  else if o = [111,112,116,105,111,110] then [[111,112,116,105,111,110]]
  else if o = [116,100] then [[116,100],[116,114]]
  else if o = [116,114] then [[116,114]] else []
def closesB (o b : List UInt8) : Bool:=(closedL o).contains b
end M6
end Go.Proofs.YteefodibpjgicaaGreat
