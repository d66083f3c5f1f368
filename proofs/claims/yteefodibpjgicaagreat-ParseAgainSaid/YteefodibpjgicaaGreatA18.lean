/- Texts joined: Shal, Ref03m, DomM. -/
import Derived.StillTailTactics
import Derived.Test.YteefodibpjgicaaGreatA7
import Derived.Test.YteefodibpjgicaaGreatA11
import Derived.Test.YteefodibpjgicaaGreatA17
namespace Go.Proofs.YteefodibpjgicaaGreat
open Go.RowKit
abbrev NV.cells (b : NV) : List Value:=b.x.cells b.va b.vk
def cellsV (L : List NV) : List Value:=L.flatMap NV.cells
def NV.ok (b : NV) : Prop:=(∃ a c,b.va = .slice a b.x.attrs.length c) ∧ ∃ a c,b.vk = .slice a b.x.kids.length c
theorem cellsV_cons (b : NV) (L : List NV) : cellsV (b :: L) = b.cells ++ cellsV L:=rfl
theorem cellsV_append (A B : List NV) : cellsV (A ++ B) = cellsV A ++ cellsV B:=by simp [cellsV]
theorem cellsV_one (b : NV) : cellsV [b] = b.cells:=by simp [cellsV]
theorem cellsV_snoc (A : List NV) (b : NV) : cellsV (A ++ [b]) = cellsV A ++ b.cells:=by rw [cellsV_append,cellsV_one]
theorem cellsV_len (L : List NV) : (cellsV L).length = L.length * 5:=by
  induction L with
  | nil => rfl
  | cons b r ih => rw [cellsV_cons,List.length_append,ih,List.length_cons]; simp; omega
theorem RepV.ok {S : Nat → Prop} {w : World} {b : NV} (h : RepV S w b.x b.va b.vk) : b.ok:=⟨h.at_.slice,h.kids.slice⟩
theorem RepC.nv {S : Nat → Prop} {w : World} : ∀ (l : List Nd) (xs : List Value),RepC S w xs l → ∃ L : List NV,L.map NV.x = l ∧ xs = cellsV L ∧ ∀ b ∈ L,RepV S w b.x b.va b.vk:=by
  intro l
  induction l using Nd.ind with
  | h0 => intro xs h; rw [RepC] at h; exact ⟨[],rfl,h,fun b hb => by cases hb⟩
  | h1 k n ats t ks r _ ih2 =>
    intro xs h
    obtain ⟨va,vk,ys,rfl,h2,h3,h5⟩:=RepC.cons_iff.1 h
    obtain ⟨L,rfl,rfl,hL⟩:=ih2 _ h5
    refine ⟨⟨.mk k n ats t ks,va,vk⟩ :: L,rfl,rfl,fun b hb => ?_⟩
    rcases List.mem_cons.1 hb with rfl | hb
    · exact ⟨h2,h3⟩
    · exact hL b hb
theorem RepC.of_nv {S : Nat → Prop} {w : World} {L : List NV} (h : ∀ b ∈ L,RepV S w b.x b.va b.vk) : RepC S w (cellsV L) (L.map NV.x):=by
  induction L with
  | nil => exact RepC.nil _ _
  | cons b r ih =>
    rw [cellsV_cons,List.map_cons]
    exact RepC.append (m:=r.map NV.x) (ih (fun c hc => h c (by simp [hc]))) [b.x] _ (RepC.single (h b (by simp)))
theorem cellsV_at (L : List NV) (i : Nat) (h : i < L.length) :
    (cellsV L)[i * 5]? = some (.int .i64 L[i].x.kind) ∧ (cellsV L)[i * 5 + 1]? = some (.string L[i].x.name) ∧ (cellsV L)[i * 5 + 2]? = some L[i].va ∧ (cellsV L)[i * 5 + 3]? = some (.string L[i].x.text) ∧ (cellsV L)[i * 5 + 4]? = some L[i].vk:=by
  induction L generalizing i with
  | nil => simp at h
  | cons b r ih =>
    cases i with
    | zero => simp [cellsV_cons,NV.cells]
    | succ i =>
      have:=ih i (by simpa using h)
      rw [cellsV_cons,show (i + 1) * 5 = i * 5 + 1 + 1 + 1 + 1 + 1 by omega]
      simpa [NV.cells] using this
theorem Row.atV {S : Nat → Prop} {w : World} {a : Option Addr} {n cap : Nat} {L : List NV} (h : Row S w 5 (.slice a n cap) L.length (cellsV L)) (i : Nat) (hi : i < L.length) :
    ∃ b off,a = some ⟨b,off,none⟩ ∧ S b ∧ w.cell? ⟨b,off + i * 5,none⟩ = some (.int .i64 L[i].x.kind) ∧ w.cell? ⟨b,off + i * 5 + 1,none⟩ = some (.string L[i].x.name) ∧ w.cell? ⟨b,off + i * 5 + 2,none⟩ = some L[i].va ∧ w.cell? ⟨b,off + i * 5 + 3,none⟩ = some (.string L[i].x.text) ∧ w.cell? ⟨b,off + i * 5 + 4,none⟩ = some L[i].vk:=by
  obtain ⟨h0,a',cap',h1,h2,h3,h4,h5⟩:=h
  cases h1
  obtain ⟨b,off,rfl,h7,h8⟩:=h5 (by omega)
  obtain ⟨c0,c1,c2,c3,c4⟩:=cellsV_at L i hi
  exact ⟨b,off,rfl,h7,h8 _ _ c0,h8 _ _ c1,h8 _ _ c2,h8 _ _ c3,h8 _ _ c4⟩
theorem own_atV {w : World} {B g : Nat} {n cap : Nat} {L : List NV} (h : w.ownsRow B 41 5 (.slice (some ⟨g,0,none⟩) n cap) n (cellsV L)) (i : Nat) (hi : i < L.length) :
    w.cell? ⟨g,i * 5,none⟩ = some (.int .i64 L[i].x.kind) ∧ w.cell? ⟨g,i * 5 + 3,none⟩ = some (.string L[i].x.text) ∧ w.frozen? ⟨g,i * 5 + 3,none⟩ = false:=by
  obtain ⟨c0,c1,c2,c3,c4⟩:=cellsV_at L i hi
  have hc:=fun j u hu => h.cells (g:=g) rfl j u hu
  refine ⟨by have:=hc _ _ c0; rwa [add_plain',Nat.zero_add] at this,by have:=hc _ _ c3; rwa [add_plain',Nat.zero_add] at this,?_⟩
  rcases h.2 with ⟨h',_⟩ | ⟨g',cap',cur,h',_,hg,_⟩
  · cases h'
  · cases h'
    simp [World.frozen?,hg]
theorem wpList_appK {P : Program} {ops : Array Oper} {rest : List Oper} {o : Oper} {a : Act} {Q : Exit → Act → World → Prop} (w1 : World) (cs : List Value) (k : Nat) (hgd : o.guard = none) (s y : Operand) (t e : TypeId)
    (ho : o.op = .call { callee:=.builtin .append,args:=#[s,y],argTypes:=#[t,t] }) (base : Nat) {z : Value} {bytes : Nat} (ht : P.underlying t = some (.slice e))
    (hinfo : (P.info? e).map (fun i => (i.zero,i.size,i.bytes)) = some (some z,k,bytes)) (hz : z.cells.size = k) (hk : 0 < k)
    (v : Value) (n : Nat) (xs : List Value) (hs : a.eval s = v) (hown : w1.ownsRow base e k v n xs) (H : Nat) (hH : w1.heap.size = H) (hx : a.eval y = .slice (some ⟨H,0,none⟩) 1 1) (hcs : cs.length = k) (h1 : ∀ u ∈ cs,u.oneCell' = true)
    (h63 : n + 1 ≤ 9223372036854775807) (hbytes : (n + 1) * bytes ≤ 140737488355328) (hbase : base ≤ w1.heap.size)
    (h : ∀ g cap w2,w2.ownsRow base e k (.slice (some ⟨g,0,none⟩) (n + 1) cap) (n + 1) (xs ++ cs) → w1.grownBy w2 v.ownBlock → (v.ownBlock = some g ∨ w1.heap.size ≤ g) → wpList P ops Q rest (a.put o.dst (.slice (some ⟨g,0,none⟩) (n + 1) cap)) w2) : wpList P ops Q (o :: rest) a (w1.alloc (.cells cs.toArray e)):=by
  subst hH
  obtain ⟨i,hi,hz0,hz1,hz2⟩:=info_parts hinfo
  refine wpList_append_lies _ hgd s y t ho base e i z k bytes ht hi hz0 hz1 hz2 hz hk v n xs hs (hown.alloc _) ⟨w1.heap.size,0,none⟩ 1 1 cs hx (by omega) ?_ h1 (by omega) (by unfold maxLen; omega) hbytes (by simp; omega) _ rfl ?_
  · intro j u hj
    rw [add_plain',Nat.zero_add,World.cell?_alloc_at _ _ _ _ rfl]
    simpa using hj
  · intro g cap w2 h2 h3 h4 _
    exact h g cap w2 h2 (grownBy_of_alloc h3) (by
      rcases h4 with h4 | h4
      · exact .inl h4
      · right; rw [h4]; simp)
theorem own_below3 {w w1 : World} {base : Nat} {e : TypeId} {k : Nat} {v : Value} {n : Nat} {xs : List Value} (h : w.ownsRow base e k v n xs) (hb : Below w.heap.size w w1) : w1.ownsRow base e k v n xs :=
  own_keep h (fun g hg => hb.block g (h.lt g hg).2)
theorem below_own {B base : Nat} {e : TypeId} {k n : Nat} {v : Value} {xs : List Value} {a w w' : World} (h : Below B a w) (hown : w.ownsRow base e k v n xs) (hg : w.grownBy w' v.ownBlock) (hB : B ≤ w.heap.size) (hb : B ≤ base) : Below B a w' :=
  h.grown hg hB (fun k hk => by have:=(hown.lt k hk).1; omega)
def NV.withText (b : NV) (t : ByteArray) : NV:=⟨M3.withText b.x t,b.va,b.vk⟩
def bareV (b : NV) : Bool:=M3.bareB b.x
def pushV (out : List NV) (b : NV) : List NV :=
  if bareV b then out
  else match out.getLast? with
    | some y => if M3.isText b.x && M3.isText y.x then out.dropLast ++ [y.withText (M3.cat y.x.text b.x.text)] else out ++ [b]
    | none => out ++ [b]
def mergeV (L : List NV) : List NV:=L.foldl pushV []
theorem pushV_bare {out : List NV} {b : NV} (h : bareV b = true) : pushV out b = out:=by unfold pushV; rw [if_pos h]
theorem pushV_nil {b : NV} (h : bareV b = false) : pushV [] b = [b]:=by unfold pushV; rw [if_neg (by simp [h])]; rfl
theorem pushV_snoc {out : List NV} {b y : NV} (h : bareV b = false) : pushV (out ++ [y]) b = if M3.isText b.x && M3.isText y.x then out ++ [y.withText (M3.cat y.x.text b.x.text)] else out ++ [y] ++ [b]:=by
  unfold pushV
  rw [if_neg (by simp [h])]
  simp
theorem mergeV_snoc (L : List NV) (b : NV) : mergeV (L ++ [b]) = pushV (mergeV L) b:=by simp [mergeV]
theorem pushV_map (out : List NV) (b : NV) : (pushV out b).map NV.x = M3.push (out.map NV.x) b.x:=by
  cases h : bareV b
  · rcases List.eq_nil_or_concat out with rfl | ⟨o,y,rfl⟩
    · rw [pushV_nil h]; exact (M3.push_none h).symm
    · rw [List.concat_eq_append,pushV_snoc h,List.map_append,List.map_cons,List.map_nil,M3.push_snoc h]
      split <;> simp [NV.withText]
  · rw [pushV_bare h,M3.push_bare h]
theorem mergeV_map (L : List NV) : (mergeV L).map NV.x = M3.merge (L.map NV.x):=by
  have key : ∀ (L out : List NV),(L.foldl pushV out).map NV.x = (L.map NV.x).foldl M3.push (out.map NV.x):=by
    intro L
    induction L with
    | nil => intro out; rfl
    | cons b r ih => intro out; rw [List.foldl_cons,ih,pushV_map]; rfl
  exact key L []
def txtV (L : List NV) : Nat:=(L.map fun b => b.x.text.size).sum
theorem txtV_append (A B : List NV) : txtV (A ++ B) = txtV A + txtV B:=by simp [txtV]
theorem txtV_one (b : NV) : txtV [b] = b.x.text.size:=by simp [txtV]
theorem cat_size (s t : ByteArray) : (M3.cat s t).size = s.size + t.size:=by
  show (M3.cat s t).data.toList.length = s.data.toList.length + t.data.toList.length
  rw [M3.cat_data,List.length_append]
theorem txtV_push (out : List NV) (b : NV) : txtV (pushV out b) ≤ txtV out + b.x.text.size ∧ (pushV out b).length ≤ out.length + 1:=by
  cases h : bareV b
  · rcases List.eq_nil_or_concat out with rfl | ⟨o,y,rfl⟩
    · rw [pushV_nil h,txtV_one]; simp
    · rw [List.concat_eq_append,pushV_snoc h]
      split
      · rw [txtV_append,txtV_append,txtV_one,txtV_one]; simp [NV.withText,M3.withText_text,cat_size]; omega
      · rw [txtV_append,txtV_one]; simp
  · rw [pushV_bare h]; omega
theorem txtV_merge (L : List NV) : txtV (mergeV L) ≤ txtV L ∧ (mergeV L).length ≤ L.length:=by
  have key : ∀ (L out : List NV),txtV (L.foldl pushV out) ≤ txtV out + txtV L ∧ (L.foldl pushV out).length ≤ out.length + L.length:=by
    intro L
    induction L with
    | nil => intro out; simp [txtV]
    | cons b r ih =>
      intro out
      have h1:=ih (pushV out b)
      have h2:=txtV_push out b
      have h3 : txtV (b :: r) = b.x.text.size + txtV r:=by simp [txtV]
      rw [List.foldl_cons,h3,List.length_cons]
      omega
  have:=key L []
  simpa [mergeV,txtV] using this
theorem txtV_mem {L : List NV} {b : NV} (h : b ∈ L) : b.x.text.size ≤ txtV L:=by
  induction L with
  | nil => cases h
  | cons c r ih =>
    have h3 : txtV (c :: r) = c.x.text.size + txtV r:=by simp [txtV]
    rcases List.mem_cons.1 h with rfl | h
    · omega
    · have:=ih h; omega
end Go.Proofs.YteefodibpjgicaaGreat

namespace Go.Proofs.YteefodibpjgicaaGreat
open Go.RowKit
def ShPost (L : List NV) (w : World) (e : Ending) (w' : World) : Prop:=∃ v',e = .returned v' ∧ w'.ownsRow w.heap.size 41 5 v' L.length (cellsV L) ∧ Below w.heap.size w w'
theorem five_one (k : Int) (n t : ByteArray) (a1 a2 : Option Addr) (n1 c1 n2 c2 : Nat) : ∀ u ∈ ([.int .i64 k,.string n,.slice a1 n1 c1,.string t,.slice a2 n2 c2] : List Value),u.oneCell' = true:=by simp [Value.oneCell']
theorem meas_nat {n k : Nat} (h : k < n) : n - (intOf (.int .i64 ((k : Int) + 1))).toNat < n - (intOf (.int .i64 (k : Int))).toNat:=by
  show n - ((k : Int) + 1).toNat < n - (k : Int).toNat
  omega
theorem cat_eq (s t : ByteArray) : M3.cat s t = s ++ t:=by
  have h:=cat_mk s.data.toList t
  have e : (⟨s.data.toList.toArray⟩ : ByteArray) = s:=by cases s; simp
  rw [e] at h
  rw [h]; rfl
theorem setText_cells (A : List NV) (y : NV) (t : ByteArray) (i : Nat) (h : i = A.length) : (cellsV (A ++ [y])).set (i * 5 + 3) (.string t) = cellsV (A ++ [y.withText t]):=by
  subst h
  rw [cellsV_snoc,cellsV_snoc]
  have h5 : (cellsV A).length = A.length * 5:=cellsV_len A
  rw [List.set_append_right _ _ (by omega),h5,show A.length * 5 + 3 - A.length * 5 = 3 by omega]
  obtain ⟨x,va,vk⟩:=y
  cases x
  rfl
set_option maxHeartbeats 4000000 in
set_option maxRecDepth 100000 in
theorem ref03MergeV (S : Nat → Prop) (v : Value) (L : List NV) (w : World) (hS : ∀ b,S b → b < w.heap.size) (hr : Row S w 5 v L.length (cellsV L)) (hok : ∀ b ∈ L,b.ok) (hl : L.length ≤ 1000000) (ht : txtV L ≤ 1073741824) :
    Calls Tryz.prog 50 #[v] w (ShPost (mergeV L) w):=by
  obtain ⟨a,cap,rfl⟩:=hr.slice
  obtain ⟨_,hlc,hcm⟩:=hr.len
  replace hok:=Lib.hid hok
  go_enter Tryz.func50,Tryz.ntmps50
  go_wp2_with (fail)
  go_loopw [3,4,5] (fun u3 u4 u5 wr => ∃ (i : Nat) (A : List NV),i ≤ L.length ∧ u4 = .int .i64 (i : Int) ∧ Hid (A = mergeV (L.take i)) ∧ wr.ownsRow w.heap.size 41 5 u3 A.length (cellsV A) ∧ Below w.heap.size w wr) (fun _ u4 _ _ => L.length - (intOf u4).toNat)
  case atStart => exact ⟨0,[],by omega,rfl,rfl,World.ownsRow_nil _ _ _ _,Below.refl _ _⟩
  case round =>
    obtain ⟨i,A,hi,rfl,hA,hown,hb⟩:=hrel
    have hlen : ∀ W,(Builtin.len_ #[25] 3 #[u3]).run Tryz.prog W = .ok (.int .i64 (A.length : Int)) W:=by
      obtain ⟨a3,cap3,rfl⟩:=own_slice hown
      exact fun _ => rfl
    have hz:=hb.size
    have hAl : A.length ≤ 1000000:=by rw [hA.out]; have:=(txtV_merge (L.take i)).2; have:=List.length_take_le i L; omega
    have hAt : txtV A ≤ 1073741824:=by
      rw [hA.out]
      have h1:=(txtV_merge (L.take i)).1
      have h2 : txtV L = txtV (L.take i) + txtV (L.drop i):=by rw [← txtV_append,List.take_append_drop]
      omega
    by_cases hlt : i < L.length
    · obtain ⟨b,off,rfl,hSb,c0,c1,c2,c3,c4⟩:=(hr.below hS hb).atV i hlt
      have hbl:=hS b hSb
      have htk : L.take (i + 1) = L.take i ++ [L[i]]:=List.take_succ_eq_append_getElem hlt
      have hA2 : Hid (mergeV (L.take (i + 1)) = pushV A L[i]):=by show _ = _; rw [htk,mergeV_snoc,hA.out]
      have hxt:=txtV_mem (List.getElem_mem hlt)
      have hkx:=hok.out _ (List.getElem_mem hlt)
      clear hA htk
      generalize L[i] = x at *
      obtain ⟨⟨k,n,ats,t,ks⟩,va,vk⟩:=x
      obtain ⟨⟨a1,e1,hva⟩,a2,e2,hvk⟩:=hkx
      simp only [Nd.kind,Nd.name,Nd.text,Nd.attrs,Nd.kids] at c0 c1 c2 c3 c4 hxt hva hvk
      subst hva
      subst hvk
      have hbare : bareV ⟨.mk k n ats t ks,.slice a1 ats.length e1,.slice a2 ks.length e2⟩ = ((k == 2) && t.toList.isEmpty):=rfl
      cases hk : (k == 2)
      · -- no text
        rw [hk] at hbare
        have hp : pushV A ⟨.mk k n ats t ks,.slice a1 ats.length e1,.slice a2 ks.length e2⟩ = A ++ [(⟨.mk k n ats t ks,.slice a1 ats.length e1,.slice a2 ks.length e2⟩ : NV)]:=by
          rcases List.eq_nil_or_concat A with rfl | ⟨o,y,rfl⟩
          · exact pushV_nil hbare
          · rw [List.concat_eq_append,pushV_snoc hbare]
            have h3 : M3.isText (.mk k n ats t ks) = false:=hk
            rw [h3]; rfl
        rw [hp] at hA2
        clear hp hbare
        go_wp2_with (at_builtin; refine wpList_appK _ [.int .i64 k,.string n,.slice a1 ats.length e1,.string t,.slice a2 ks.length e2] 5 rfl _ _ 25 41 rfl w.heap.size Tryz.underlying25 infoN rfl (by omega) _ A.length (cellsV A) rfl hown _ rfl rfl rfl (five_one _ _ _ _ _ _ _ _ _) (by omega) (by omega) (by omega) ?_; intro g cp w2 hown2 hgrow2 hat2)
        have hb2:=below_own hb hown hgrow2 hz (Nat.le_refl _)
        have hown3 : w2.ownsRow w.heap.size 41 5 (.slice (some ⟨g,0,none⟩) (A.length + 1) cp) (A ++ [(⟨.mk k n ats t ks,.slice a1 ats.length e1,.slice a2 ks.length e2⟩ : NV)]).length (cellsV (A ++ [(⟨.mk k n ats t ks,.slice a1 ats.length e1,.slice a2 ks.length e2⟩ : NV)])):=by
          rw [cellsV_snoc]; rw [List.length_append]; exact hown2
        clear hown2 hgrow2 hat2
        go_roundw
        case rel => exact ⟨i + 1,A ++ [(⟨.mk k n ats t ks,.slice a1 ats.length e1,.slice a2 ks.length e2⟩ : NV)],by omega,by go_num,Lib.hid hA2.out.symm,hown3,hb2⟩
        case measure => exact meas_nat hlt
      · obtain rfl : k = 2:=by simpa using hk
        clear hk
        cases hte : t.toList.isEmpty
        · rw [hte] at hbare
          rcases List.eq_nil_or_concat A with rfl | ⟨o,y,rfl⟩
          · rw [pushV_nil hbare] at hA2
            clear hbare
            go_wp2_with (at_builtin; refine wpList_appK _ [.int .i64 2,.string n,.slice a1 ats.length e1,.string t,.slice a2 ks.length e2] 5 rfl _ _ 25 41 rfl w.heap.size Tryz.underlying25 infoN rfl (by omega) _ 0 (cellsV []) rfl hown _ rfl rfl rfl (five_one _ _ _ _ _ _ _ _ _) (by omega) (by omega) (by omega) ?_; intro g cp w2 hown2 hgrow2 hat2)
            have hb2:=below_own hb hown hgrow2 hz (Nat.le_refl _)
            have hown3 : w2.ownsRow w.heap.size 41 5 (.slice (some ⟨g,0,none⟩) (0 + 1) cp) ([] ++ [(⟨.mk 2 n ats t ks,.slice a1 ats.length e1,.slice a2 ks.length e2⟩ : NV)]).length (cellsV ([] ++ [(⟨.mk 2 n ats t ks,.slice a1 ats.length e1,.slice a2 ks.length e2⟩ : NV)])):=by
              rw [cellsV_snoc]; exact hown2
            clear hown2 hgrow2 hat2
            go_roundw
            case rel => exact ⟨i + 1,[] ++ [(⟨.mk 2 n ats t ks,.slice a1 ats.length e1,.slice a2 ks.length e2⟩ : NV)],by omega,by go_num,Lib.hid hA2.out.symm,hown3,hb2⟩
            case measure => exact meas_nat hlt
          · rw [List.concat_eq_append] at *
            have hol : (o ++ [y]).length = o.length + 1:=by simp
            rw [hol] at hown hlen hAl
            obtain ⟨g3,cap3,rfl,hg3,hg3l⟩:=hown.form (by omega)
            clear hlen
            obtain ⟨o0,o3,f3⟩:=own_atV hown o.length (by omega)
            rw [List.getElem_append_right (Nat.le_refl _)] at o0 o3
            simp only [Nat.sub_self,List.getElem_cons_zero] at o0 o3
            rw [pushV_snoc hbare] at hA2
            have hyt : y.x.text.size ≤ 1073741824:=by rw [txtV_append,txtV_one] at hAt; omega
            have hi1 : ((o.length : Int) + 1 - 1) = (o.length : Int):=by omega
            have hcp : (cap3 : Int) ≤ 9223372036854775807 ∧ (o.length : Int) < (cap3 : Int):=by
              rcases hown.2 with ⟨h',_⟩ | ⟨g',cap',cur,h',_,_,q1,q2,_⟩
              · cases h'
              · cases h'
                unfold maxLen at q2
                omega
            obtain ⟨hcp1,hcp2⟩:=hcp
            obtain ⟨⟨k2,n2,ats2,t2,ks2⟩,va2,vk2⟩:=y
            simp only [Nd.kind,Nd.text] at o0 o3 hyt
            cases hk2 : (k2 == 2)
            · have h3 : M3.isText (.mk k2 n2 ats2 t2 ks2) = false:=hk2
              simp only [h3,Bool.and_false,Bool.false_eq_true,if_false] at hA2
              clear h3 hbare
              go_wp2_with (at_builtin; refine wpList_appK _ [.int .i64 2,.string n,.slice a1 ats.length e1,.string t,.slice a2 ks.length e2] 5 rfl _ _ 25 41 rfl w.heap.size Tryz.underlying25 infoN rfl (by omega) _ (o.length + 1) (cellsV (o ++ [(⟨.mk k2 n2 ats2 t2 ks2,va2,vk2⟩ : NV)])) rfl hown _ rfl rfl rfl (five_one _ _ _ _ _ _ _ _ _) (by omega) (by omega) (by omega) ?_; intro g cp w2 hown2 hgrow2 hat2)
              have hb2:=below_own hb hown hgrow2 hz (Nat.le_refl _)
              have hown3 : w2.ownsRow w.heap.size 41 5 (.slice (some ⟨g,0,none⟩) (o.length + 1 + 1) cp) ((o ++ [(⟨.mk k2 n2 ats2 t2 ks2,va2,vk2⟩ : NV)]) ++ [(⟨.mk 2 n ats t ks,.slice a1 ats.length e1,.slice a2 ks.length e2⟩ : NV)]).length (cellsV ((o ++ [(⟨.mk k2 n2 ats2 t2 ks2,va2,vk2⟩ : NV)]) ++ [(⟨.mk 2 n ats t ks,.slice a1 ats.length e1,.slice a2 ks.length e2⟩ : NV)])):=by
                rw [cellsV_snoc,List.length_append,hol]; exact hown2
              clear hown2 hgrow2 hat2
              go_roundw
              case rel => exact ⟨i + 1,(o ++ [(⟨.mk k2 n2 ats2 t2 ks2,va2,vk2⟩ : NV)]) ++ [(⟨.mk 2 n ats t ks,.slice a1 ats.length e1,.slice a2 ks.length e2⟩ : NV)],by omega,by go_num,Lib.hid hA2.out.symm,hown3,hb2⟩
              case measure => exact meas_nat hlt
            · have h3 : M3.isText (.mk k2 n2 ats2 t2 ks2) = true:=hk2
              have h4 : M3.isText (.mk 2 n ats t ks) = true:=rfl
              simp only [h3,h4,Bool.and_self,if_true] at hA2
              clear h3 h4 hbare
              obtain rfl : k2 = 2:=by simpa using hk2
              go_wp2_with (fail)
              have hq1 : (o.length : Int) < (o.length : Int) + 1:=by omega
              have hq2 : (i : Int) < (L.length : Int):=by omega
              have hq3 : ¬ (9223372036854775807 < t2.size + t.size):=by omega
              go_still_tail 15,(by kernel_rfl)
              change wpList _ _ _ _ _ wr.drew
              go_wp2_with (fail)
              have hst:=(hown.stored (o.length * 5 + 3) (.string (t2 ++ t))).1
              have hown3:=own_keep hst (w':=(wr.setCell ⟨g3,o.length * 5 + 3,none⟩ (.string (t2 ++ t))).drew) (fun _ _ => rfl)
              rw [setText_cells _ _ _ _ rfl,← cat_eq] at hown3
              have hb3 : Below w.heap.size w (wr.setCell ⟨g3,o.length * 5 + 3,none⟩ (.string (t2 ++ t))).drew:=(hb.setCell (p:=⟨g3,o.length * 5 + 3,none⟩) hg3 _).drew
              go_roundw
              case rel => exact ⟨i + 1,o ++ [NV.withText (⟨.mk 2 n2 ats2 t2 ks2,va2,vk2⟩ : NV) (M3.cat t2 t)],by omega,by go_num,Lib.hid hA2.out.symm,by rw [List.length_append]; exact hown3,hb3⟩
              case measure => exact meas_nat hlt
        · rw [hte] at hbare
          rw [pushV_bare hbare] at hA2
          go_wp2_with (fail)
          go_roundw
          case rel => exact ⟨i + 1,A,by omega,by go_num,Lib.hid hA2.out.symm,hown,hb⟩
          case measure => exact meas_nat hlt
    · obtain rfl : i = L.length:=by omega
      rw [List.take_length] at hA
      go_wp2_with (fail)
      go_ret
      exact ⟨u3,rfl,by rw [← hA.out]; exact hown,hb⟩
end Go.Proofs.YteefodibpjgicaaGreat

namespace Go.Proofs.YteefodibpjgicaaGreat
open Go.RowKit
end Go.Proofs.YteefodibpjgicaaGreat
