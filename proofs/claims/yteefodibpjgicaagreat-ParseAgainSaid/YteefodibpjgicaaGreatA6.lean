/- Texts joined: Strs, Kit2, Ref02. -/
import Derived.Lib.Bytealg
import Derived.Lib.Strings
import Derived.Shelf.Strconv.Clone
import Derived.Test.YteefodibpjgicaaGreatRows
import Derived.Deep.QuietTactic
import Derived.BigQuiet
import Derived.IntWalk
import Derived.Test.YteefodibpjgicaaGreatA1
import Derived.Test.YteefodibpjgicaaGreatA2
import Derived.Test.YteefodibpjgicaaGreatA4
namespace Go.Proofs.YteefodibpjgicaaGreat
open Go.Shelf Go.RowKit
set_option maxHeartbeats 2000000 in
set_option maxRecDepth 100000 in
theorem bWriteString (B b : Nat) (bs : List Value) (s : ByteArray) (w : World) (h : Lib.IsBuilderF 120 5 B b bs w) (hlen : bs.length + s.size ≤ 140737488355328) (hBw : B ≤ w.heap.size) :
    Calls Tryz.prog 106 #[.pointer (some ⟨b,0,none⟩),.string s] w fun e w' => e = .returned (.tuple #[.int .i64 s.size,.nilIface]) ∧ (Lib.BuilderAtF 120 5 B b (.pointer (some ⟨b,0,none⟩)) (bs ++ Lib.strCells s) w' ∧ Below B w w' ∧ Lib.OthersKept 5 (some b) w w'):=by
  obtain ⟨i0,hi,hz0,hz1,hz2⟩:=info_parts infoU8
  go_enter Tryz.func106,Tryz.ntmps106
  go_wp2_with (go_at_call 114; refine (copyCheck_k B b bs _ h).mono ?_)
  rintro e w1 ⟨rfl,h1,hb1,hk1⟩
  obtain ⟨hB,v,hbk,hown,hne⟩:=h1
  have c0 : w1.cell? ⟨b,0,none⟩ = some (.pointer (some ⟨b,0,none⟩)):=by rw [Lib.cell_of_heap hbk]; rfl
  have c1 : w1.cell? ⟨b,1,none⟩ = some v:=by rw [Lib.cell_of_heap hbk]; rfl
  go_wp2_with (at_builtin; refine Lib.wpList_append_own_stringF _ rfl _ _ 22 9 rfl B 5 i0 Tryz.underlying22 Tryz.underlying9 hi hz0 hz1 hz2 _ _ _ rfl hown s rfl ?c3 ?c4 ?c5 ?_)
  case c3 => unfold maxLen; omega
  case c4 => omega
  case c5 => have:=hb1.size; omega
  intro v' w2 hown' hgrow _
  have hlt : b < w1.heap.size:=by
    rcases Nat.lt_or_ge b w1.heap.size with h' | h'
    · exact h'
    · simp [Array.getElem?_eq_none h'] at hbk
  have hb2 : w2.heap[b]? = some (.cells #[.pointer (some ⟨b,0,none⟩),v] 120 (0,0)):=by
    rw [hgrow.block b hlt (fun e => hne e.symm)]
    exact hbk
  have d0 : w2.cell? ⟨b,0,none⟩ = some (.pointer (some ⟨b,0,none⟩)):=by rw [Lib.cell_of_heap hb2]; rfl
  have d1 : w2.cell? ⟨b,1,none⟩ = some v:=by rw [Lib.cell_of_heap hb2]; rfl
  have f1 : w2.frozen? ⟨b,1,none⟩ = false:=Lib.frozen_of_heap hb2 1
  obtain ⟨ao,n',cap,rfl⟩ : ∃ ao n' cap,v' = .slice ao n' cap:=by
    rcases hown'.2 with ⟨hv,_⟩ | ⟨g,cap,cur,fz,hv,_⟩
    · exact ⟨_,_,_,hv⟩
    · exact ⟨_,_,_,hv⟩
  go_wp2
  go_ret2
  refine ⟨rfl,?_,?_,(hk1.grown hgrow (Lib.ownsRowF_kind hown)).setCell ⟨b,1,none⟩ rfl _⟩
  · exact Lib.BuilderAtF.put (T:=120) (e:=5) hB hb2 (bs':=bs ++ Lib.strCells s) (by simpa [Lib.strCells_length] using hown') (by decide)
  · exact (hb1.grown hgrow (by have:=hb1.size; omega) (fun k hk => (hown.lt k hk).1)).setCell (p:=⟨b,1,none⟩) hB _
set_option maxHeartbeats 1000000 in
set_option maxRecDepth 100000 in
theorem liteIndexByte (s : ByteArray) (c : Int) (w : World) :
    Calls Tryz.prog 132 #[.string s,.int .u8 c] w fun e w' => e = .returned (.int .i64 (Lib.indexByte s.data.toList c.toNat.toUInt8)) ∧ w' = w:=by
  go_enter Tryz.func132,Tryz.ntmps132
  go_wp2
  rw [run_callFunc_extern Tryz.func133 (by kernel_rfl) (by kernel_rfl) (by kernel_rfl) (e:=Extern.BytealgIndexByte.indexByte) (by kernel_rfl),Lib.run_indexByteString]
  simp only [Result.andThen]
  rw [Oper.upon_value]
  go_wp2
  go_ret
  exact ⟨rfl,rfl⟩
set_option maxHeartbeats 1000000 in
theorem sIndexByte (s : ByteArray) (c : Int) (w : World) :
    Calls Tryz.prog 128 #[.string s,.int .u8 c] w fun e w' => e = .returned (.int .i64 (Lib.indexByte s.data.toList c.toNat.toUInt8)) ∧ w' = w:=by
  go_enter Tryz.func128,Tryz.ntmps128
  go_wp2_with (go_at_call 132; refine (liteIndexByte _ _ _).mono ?_; rintro e w' ⟨rfl,rfl⟩)
  go_ret
  exact ⟨rfl,rfl⟩
set_option maxHeartbeats 2000000 in
set_option maxRecDepth 100000 in
theorem liteIndex1 (s : ByteArray) (c : UInt8) (w : World) :
    Calls Tryz.prog 194 #[.string s,.string ⟨#[c]⟩] w fun e w' => e = .returned (.int .i64 (Lib.indexByte s.data.toList c)) ∧ w' = w:=by
  go_enter Tryz.func194,Tryz.ntmps194
  go_wp2_with (go_at_call 132; refine (liteIndexByte _ _ _).mono ?_; rintro e w' ⟨rfl,rfl⟩)
  · have h : ([c] == s.toList) = true:=by assumption
    go_ret
    refine ⟨?_,rfl⟩
    have e : s.data.toList = [c]:=by rw [← Lib.toList_data]; exact (beq_iff_eq.1 h).symm
    rw [e]
    simp [Lib.indexByte]
  · go_ret
    exact ⟨rfl,rfl⟩
set_option maxHeartbeats 1000000 in
theorem sIndex1 (s : ByteArray) (c : UInt8) (w : World) :
    Calls Tryz.prog 187 #[.string s,.string ⟨#[c]⟩] w fun e w' => e = .returned (.int .i64 (Lib.indexByte s.data.toList c)) ∧ w' = w:=by
  go_enter Tryz.func187,Tryz.ntmps187
  go_wp2_with (go_at_call 194; refine (liteIndex1 _ _ _).mono ?_; rintro e w' ⟨rfl,rfl⟩)
  go_ret
  exact ⟨rfl,rfl⟩
set_option maxHeartbeats 1000000 in
theorem sContains1 (s : ByteArray) (c : UInt8) (w : World) :
    Calls Tryz.prog 176 #[.string s,.string ⟨#[c]⟩] w fun e w' => e = .returned (.bool (decide (0 ≤ Lib.indexByte s.data.toList c))) ∧ w' = w:=by
  go_enter Tryz.func176,Tryz.ntmps176
  go_wp2_with (go_at_call 187; refine (sIndex1 _ _ _).mono ?_; rintro e w' ⟨rfl,rfl⟩)
  go_ret
  exact ⟨rfl,rfl⟩
def Tryz.lays316_ren : Go.Shelf.Ren:=⟨fun | 316 => 181 | n => n,fun | 0 => 0 | 3 => 3 | 4 => 4 | 5 => 5 | 9 => 9 | 37 => 22 | 127 => 129 | n => n,fun | n => n⟩
theorem Tryz.lays316 : Go.Proofs.LaysM.n316 Tryz.prog Tryz.lays316_ren:={
  mixed:=by kernel_rfl
  f316:=Tryz.func181.trans (congrArg some (by kernel_rfl))
  t0:=Tryz.underlying0
  a0:=Tryz.isAgg0
  z0:=Tryz.sizeOf0
  v0:=Tryz.zeroValue0
  t3:=Tryz.underlying3
  a3:=Tryz.isAgg3
  z3:=Tryz.sizeOf3
  v3:=Tryz.zeroValue3
  t4:=Tryz.underlying4
  a4:=Tryz.isAgg4
  z4:=Tryz.sizeOf4
  v4:=Tryz.zeroValue4
  t5:=Tryz.underlying5
  a5:=Tryz.isAgg5
  z5:=Tryz.sizeOf5
  v5:=Tryz.zeroValue5
  t9:=Tryz.underlying9
  a9:=Tryz.isAgg9
  z9:=Tryz.sizeOf9
  v9:=Tryz.zeroValue9
  t37:=Tryz.underlying22
  a37:=Tryz.isAgg22
  z37:=Tryz.sizeOf22
  v37:=Tryz.zeroValue22
  t127:=Tryz.underlying129
  a127:=Tryz.isAgg129
  z127:=Tryz.sizeOf129
  v127:=Tryz.zeroValue129
  i0:=by kernel_rfl
  i3:=by kernel_rfl
  i4:=by kernel_rfl
  i5:=by kernel_rfl
  i9:=by kernel_rfl
  i37:=by kernel_rfl
  i127:=by kernel_rfl }
theorem liteClone (s : ByteArray) (w : World) (hs : s.size ≤ 281474976710656) :
    Calls Tryz.prog 181 #[.string s] w fun e w' => e = .returned (.string s) ∧ Below w.heap.size w w':=Any.stringslite_Clone Tryz.lays316 s w hs
set_option maxHeartbeats 1000000 in
theorem sClone (s : ByteArray) (w : World) (hs : s.size ≤ 281474976710656) :
    Calls Tryz.prog 169 #[.string s] w fun e w' => e = .returned (.string s) ∧ Below w.heap.size w w':=by
  go_enter Tryz.func169,Tryz.ntmps169
  go_wp2_with (go_at_call 181; refine (liteClone _ _ hs).mono ?_; rintro e w' ⟨rfl,hb⟩)
  go_ret
  exact ⟨rfl,hb⟩
end Go.Proofs.YteefodibpjgicaaGreat

namespace Go.Proofs.YteefodibpjgicaaGreat
open Go.RowKit
theorem add_plain' (b off j : Nat) : (⟨b,off,none⟩ : Addr).add j = ⟨b,off + j,none⟩:=by unfold Addr.add; split <;> simp_all
theorem Sl.fresh' (w : World) (e : TypeId) (xs : List Value) (n : Nat) (hn : xs.length = n) (h : n ≤ 4000) : Sl (w.alloc (.cells xs.toArray e)) (.slice (some ⟨w.heap.size,0,none⟩) n n) xs:=by
  subst hn
  refine ⟨_,xs.length,rfl,Nat.le_refl _,by omega,(fun h => by cases h),fun _ => ⟨_,0,rfl,fun j hj => ?_⟩⟩
  rw [Nat.zero_add,World.cell?_alloc_at _ _ _ _ rfl]
  simp [hj]
theorem bt {w w1 w2 : World} (h : Below w.heap.size w w1) (k : Below w1.heap.size w1 w2) : Below w.heap.size w w2:=h.trans (k.mono h.size)
theorem conv_bytes (w : World) (s : ByteArray) (hs : s.size ≤ 9223372036854775807) : ∃ v w',(convert 9 22 (.string s)).run Tryz.prog w = .ok v w' ∧ Sl w' v (u8s s.data.toList) ∧ Below w.heap.size w w' :=
  ⟨_,_,Lib.run_convert_string_bytes (P:=Tryz.prog) w 9 22 5 s Tryz.underlying9 Tryz.underlying22 Tryz.underlying5,Sl.bytes w 5 s hs,below_bytesWorld w 5 s⟩
end Go.Proofs.YteefodibpjgicaaGreat

namespace Go.Proofs.YteefodibpjgicaaGreat
open Go.RowKit
def namesV : List Value:=M2.tbl.map fun p => .string ⟨p.1.toArray⟩
def codesV : List Value:=M2.tbl.map fun p => .int .i64 (p.2 : Int)
set_option maxHeartbeats 2000000 in
set_option maxRecDepth 100000 in
theorem ref02Name (s : ByteArray) (w : World) :
    Calls Tryz.prog 100 #[.string s] w fun e w' => e = .returned (.tuple #[.int .i64 (((M2.nm s.data.toList).getD 0 : Nat) : Int),.bool (M2.nm s.data.toList).isSome]) ∧ Below w.heap.size w w':=by
  generalize hx : (((M2.nm s.data.toList).getD 0 : Nat) : Int) = x
  generalize hy : (M2.nm s.data.toList).isSome = y
  replace hx:=Lib.hid hx
  replace hy:=Lib.hid hy
  go_enter Tryz.func100,Tryz.ntmps100
  go_wp2
  go_loopw [6] (fun i wr => ∃ k : Nat,k ≤ 15 ∧ i = .int .i64 k ∧ Sl wr (.slice (some ⟨w.heap.size,0,none⟩) 15 15) namesV ∧ Sl wr (.slice (some ⟨w.heap.size + 1,0,none⟩) 15 15) codesV ∧ Below w.heap.size w wr ∧ Hid (∀ p ∈ M2.tbl.take k,p.1 ≠ s.data.toList)) (fun i _ => 15 - (intOf i).toNat)
  case atStart =>
    have h1:=Sl.fresh' w 9 namesV 15 rfl (by omega)
    have h2:=Sl.fresh' (w.alloc (.cells namesV.toArray 9)) 3 codesV 15 rfl (by omega)
    refine ⟨0,by omega,rfl,h1.below ((Below.refl _ _).alloc (Nat.le_refl _) _),?_,((Below.refl _ w).alloc (Nat.le_refl _) _).alloc (by simp) _,by intro p hp; simp at hp⟩
    rw [show (w.alloc (.cells namesV.toArray 9)).heap.size = w.heap.size + 1 by simp] at h2
    exact h2
  case round =>
    obtain ⟨k,hk,rfl,hsn,hsc,hbw,hno⟩:=hrel
    by_cases hlt : k < 15
    · have hlt' : k < M2.tbl.length:=hlt
      have hsn0:=Lib.hid hsn
      have hsc0:=Lib.hid hsc
      obtain ⟨_,_,h1,_,_,_,hcn⟩:=hsn
      obtain ⟨_,_,h2,_,_,_,hcc⟩:=hsc
      obtain ⟨b1,o1,h3,hcn⟩:=hcn (by decide)
      obtain ⟨b2,o2,h4,hcc⟩:=hcc (by decide)
      cases h1
      cases h2
      cases h3
      cases h4
      have c1:=hcn k (by simpa [namesV] using hlt')
      have c2:=hcc k (by simpa [codesV] using hlt')
      simp only [namesV,codesV,List.getElem_map,Nat.zero_add] at c1 c2
      have hmem:=List.getElem_mem hlt'
      have htk : M2.tbl.take (k + 1) = M2.tbl.take k ++ [M2.tbl[k]]:=List.take_succ_eq_append_getElem hlt'
      have hnm:=M2.nm_of_mem hmem
      generalize M2.tbl[k] = p at *
      obtain ⟨pn,pc⟩:=p
      simp only at c1 c2 hnm
      clear hcn hcc hmem
      by_cases he : pn = s.data.toList
      · have hbe : (pn == s.toList) = true:=by rw [Lib.toList_data,beq_iff_eq]; exact he
        rw [he] at hnm
        replace hnm:=Lib.hid hnm
        clear he htk hno
        go_wp2
        go_ret2
        rw [← hx.out,← hy.out,hnm.out]
        exact ⟨rfl,hbw⟩
      · have hbe : (pn == s.toList) = false:=by rw [Lib.toList_data,beq_eq_false_iff_ne]; exact he
        have hno2 : Hid (∀ p ∈ M2.tbl.take (k + 1),p.1 ≠ s.data.toList):=by
          intro p hp
          rw [htk] at hp
          rcases List.mem_append.1 hp with hp | hp
          · exact hno.out p hp
          · simp at hp; subst hp; exact he
        clear he htk hno hnm
        go_wp2
        go_roundw
        case rel => exact ⟨k + 1,by omega,by go_num,hsn0.out,hsc0.out,hbw,hno2⟩
        case measure => simp [intOf]; omega
    · obtain rfl : k = 15:=by omega
      have hnm : M2.nm s.data.toList = none:=M2.nm_none (fun p hp => hno.out p (by rw [List.take_of_length_le (show M2.tbl.length ≤ 15 from Nat.le_refl _)]; exact hp))
      replace hnm:=Lib.hid hnm
      clear hno hlt
      go_wp2
      go_ret2
      rw [← hx.out,← hy.out,hnm.out]
      exact ⟨rfl,hbw⟩
def digN (b : Nat) (r : Int) : Int:=if (b : Int) ≤ M2.digZ r then -1 else M2.digZ r
set_option maxHeartbeats 1000000 in
set_option maxRecDepth 100000 in
theorem ref02Digit (r : Int) (b : Nat) (w : World) (h0 : 0 ≤ r) (h255 : r ≤ 255) :
    Calls Tryz.prog 110 #[.int .u8 r,.int .i64 (b : Int)] w fun e w' => e = .returned (.int .i64 (digN b r)) ∧ w' = w:=by
  have e1:=M2.digZ_bd r
  unfold digN
  clear e1
  by_cases h1 : 48 ≤ r ∧ r ≤ 57
  · rw [show M2.digZ r = r - 48 from if_pos h1]
    obtain ⟨h1,h2⟩:=h1
    have hd : decide (97 ≤ r) = false:=decide_eq_false (by omega)
    have hd2 : decide (65 ≤ r) = false:=decide_eq_false (by omega)
    by_cases hb : (b : Int) ≤ r - 48
    · rw [if_pos hb]
      go_enter Tryz.func110,Tryz.ntmps110
      go_wp2
      go_ret
      exact ⟨rfl,rfl⟩
    · rw [if_neg hb]
      have hb' : decide ((b : Int) ≤ r - 48) = false:=decide_eq_false hb
      clear hb
      go_enter Tryz.func110,Tryz.ntmps110
      go_wp2
      go_ret
      exact ⟨rfl,rfl⟩
  by_cases h2 : 97 ≤ r ∧ r ≤ 102
  · rw [show M2.digZ r = r - 97 + 10 by rw [M2.digZ,if_neg h1,if_pos h2]]
    obtain ⟨h2,h3⟩:=h2
    have hd : decide (r ≤ 57) = false:=decide_eq_false (by omega)
    have hd2 : decide (r ≤ 70) = false:=decide_eq_false (by omega)
    clear h1
    by_cases hb : (b : Int) ≤ r - 97 + 10
    · rw [if_pos hb]
      go_enter Tryz.func110,Tryz.ntmps110
      go_wp2
      go_ret
      exact ⟨rfl,rfl⟩
    · rw [if_neg hb]
      have hb' : decide ((b : Int) ≤ r - 97 + 10) = false:=decide_eq_false hb
      clear hb
      go_enter Tryz.func110,Tryz.ntmps110
      go_wp2
      go_ret
      exact ⟨rfl,rfl⟩
  by_cases h3 : 65 ≤ r ∧ r ≤ 70
  · rw [show M2.digZ r = r - 65 + 10 by rw [M2.digZ,if_neg h1,if_neg h2,if_pos h3]]
    obtain ⟨h3,h4⟩:=h3
    have hd : decide (r ≤ 57) = false:=decide_eq_false (by omega)
    have hd2 : decide (97 ≤ r) = false:=decide_eq_false (by omega)
    clear h1 h2
    by_cases hb : (b : Int) ≤ r - 65 + 10
    · rw [if_pos hb]
      go_enter Tryz.func110,Tryz.ntmps110
      go_wp2
      go_ret
      exact ⟨rfl,rfl⟩
    · rw [if_neg hb]
      have hb' : decide ((b : Int) ≤ r - 65 + 10) = false:=decide_eq_false hb
      clear hb
      go_enter Tryz.func110,Tryz.ntmps110
      go_wp2
      go_ret
      exact ⟨rfl,rfl⟩
  · rw [show M2.digZ r = -1 by rw [M2.digZ,if_neg h1,if_neg h2,if_neg h3],if_neg (by omega)]
    go_enter Tryz.func110,Tryz.ntmps110
    go_wp2
    all_goals first | (exfalso; omega) | (go_ret; exact ⟨rfl,rfl⟩)
theorem digN_no {b : Nat} {c : UInt8} (h : M2.isD b c = false) : digN b c.toNat < 0:=by
  unfold digN
  have:=M2.isD_no h
  split <;> omega
theorem digN_yes {b : Nat} {c : UInt8} (h : M2.isD b c = true) : digN b c.toNat = M2.digZ c.toNat ∧ 0 ≤ digN b c.toNat ∧ digN b c.toNat < b:=by
  unfold M2.isD at h
  have:=of_decide_eq_true h
  unfold digN
  rw [if_neg (by omega)]
  omega
def ansB (o : Option Int) : Value:=.tuple #[.int .i64 (o.getD 0),.bool o.isSome]
theorem ansB_mk (o : Option Int) : ∃ x y,ansB o = .tuple #[.int .i64 x,.bool y]:=⟨_,_,rfl⟩
set_option maxHeartbeats 2000000 in
set_option maxRecDepth 100000 in
theorem ref02Number (s : ByteArray) (b m : Nat) (w : World) (hb0 : 1 ≤ b) (hb : b ≤ 16) (hm : m ≤ 7) (hpow : ∀ k,k ≤ m → ((b : Int)) ^ k ≤ 16777216) (hs : s.size ≤ 1073741824) :
    Calls Tryz.prog 99 #[.string s,.int .i64 (b : Int),.int .i64 (m : Int)] w fun e w' => e = .returned (ansB (M2.numR b m s.data.toList)) ∧ w' = w:=by
  have hsz : s.data.toList.length = s.size:=rfl
  have hnr : M2.numR b m s.data.toList = if 1 ≤ s.size ∧ s.size ≤ m ∧ s.data.toList.all (M2.isD b) = true then some (M2.chr (M2.val b s.data.toList)) else none:=rfl
  by_cases h1 : s.size < 1
  · rw [hnr,if_neg (by omega)]
    have h0 : s.size = 0:=by omega
    clear hnr hpow h1 hsz
    go_enter Tryz.func99,Tryz.ntmps99
    go_wp2
    go_ret2
    exact ⟨rfl,rfl⟩
  by_cases h2 : m < s.size
  · rw [hnr,if_neg (by omega)]
    have hd : decide ((s.size : Int) < 1) = false:=decide_eq_false (by omega)
    clear hnr hpow hsz h1
    go_enter Tryz.func99,Tryz.ntmps99
    go_wp2
    go_ret2
    exact ⟨rfl,rfl⟩
  have hd : decide ((s.size : Int) < 1) = false:=decide_eq_false (by omega)
  have hd2 : decide (m < s.size) = false:=decide_eq_false (by omega)
  have hle : s.size ≤ m:=by omega
  have hge : 1 ≤ s.size:=by omega
  generalize hR : M2.numR b m s.data.toList = R at *
  replace hnr:=Lib.hid hnr
  replace hpow:=Lib.hid hpow
  obtain ⟨x,y,hxy⟩ : ∃ x y,ansB R = .tuple #[.int .i64 x,.bool y]:=ansB_mk R
  replace hxy:=Lib.hid hxy
  rw [hxy.out]
  clear hR hsz h1 h2
  go_enter Tryz.func99,Tryz.ntmps99
  go_wp2
  go_loop [8,9] (fun n i => ∃ k : Nat,k ≤ s.size ∧ i = .int .i64 k ∧ n = .int .i64 (M2.val b (s.data.toList.take k)) ∧ Hid (∀ c ∈ s.data.toList.take k,M2.isD b c = true)) (fun _ i => s.size - (intOf i).toNat)
  case atStart => exact ⟨0,by omega,rfl,rfl,by intro c hc; simp at hc⟩
  case round =>
    obtain ⟨k,hk,rfl,rfl,hall⟩:=hrel
    have hbd:=M2.val_bd b _ hall.out
    have hlk : (s.data.toList.take k).length = k:=by rw [List.length_take]; have : s.data.toList.length = s.size:=rfl; omega
    have hpk:=hpow.out k (by omega)
    rw [hlk] at hbd
    by_cases hlt : k < s.size
    · have htk : s.data.toList.take (k + 1) = s.data.toList.take k ++ [s[k]]:=List.take_succ_eq_append_getElem (l:=s.data.toList) hlt
      have hc8:=s[k].toNat_lt
      have hc0 : 0 ≤ (s[k].toNat : Int):=by omega
      have hc1 : (s[k].toNat : Int) ≤ 255:=by omega
      by_cases hd : M2.isD b s[k] = true
      · have hal : Hid (∀ c ∈ s.data.toList.take (k + 1),M2.isD b c = true):=by
          intro c hc
          rw [htk] at hc
          rcases List.mem_append.1 hc with hc | hc
          · exact hall.out c hc
          · simp at hc; subst hc; exact hd
        have hva : M2.val b (s.data.toList.take (k + 1)) = M2.val b (s.data.toList.take k) * b + M2.digZ s[k].toNat:=by rw [htk,M2.val_snoc]
        obtain ⟨d1,d2,d3⟩:=digN_yes hd
        rw [← d1] at hva
        replace hva:=Lib.hid hva
        have hm1 : M2.val b (s.data.toList.take k) * b ≤ 16777216 * 16:=Int.mul_le_mul (by omega) (by omega) (by omega) (by omega)
        have hm0 : 0 ≤ M2.val b (s.data.toList.take k) * b:=Int.mul_nonneg hbd.1 (by omega)
        rw [Int.mul_comm] at hm1 hm0
        clear htk hd d1 hc8
        go_wp2_with (go_at_call 110; refine (ref02Digit _ _ _ hc0 hc1).mono ?_; rintro e w2 ⟨rfl,rfl⟩)
        go_round
        case rel => exact ⟨k + 1,by omega,by go_num,by rw [hva.out,Int.mul_comm],hal.out⟩
        case measure => simp [intOf]; omega
      · have hdf : M2.isD b s[k] = false:=by simpa using hd
        have d1:=digN_no hdf
        have hR0 : R = none:=by
          rw [hnr.out,if_neg]
          rintro ⟨_,_,h⟩
          exact hd (List.all_eq_true.1 h _ (List.mem_of_getElem? (List.getElem?_eq_getElem (l:=s.data.toList) hlt)))
        rw [hR0] at hxy
        clear htk hd hdf hc8
        go_wp2_with (go_at_call 110; refine (ref02Digit _ _ _ hc0 hc1).mono ?_; rintro e w2 ⟨rfl,rfl⟩)
        go_ret2
        rw [← hxy.out]
        exact ⟨rfl,rfl⟩
    · obtain rfl : k = s.size:=by omega
      have ht : s.data.toList.take s.size = s.data.toList:=List.take_of_length_le (Nat.le_refl _)
      have hall2:=hall.out
      rw [ht] at hall2 hbd
      rw [ht]
      have hR0 : R = some (M2.chr (M2.val b s.data.toList)):=by
        rw [hnr.out,if_pos ⟨hge,hle,List.all_eq_true.2 hall2⟩]
      rw [hR0] at hxy
      clear hall hall2 ht hlk hlt hnr hR0
      generalize M2.val b s.data.toList = n at *
      by_cases hodd : n = 0 ∨ n = 13 ∨ (55296 ≤ n ∧ n ≤ 57343) ∨ 1114111 < n
      · rw [show M2.chr n = 65533 from if_pos hodd] at hxy
        go_wp2
        all_goals first | (exfalso; omega) | (go_ret2; rw [← hxy.out]; exact ⟨rfl,rfl⟩)
      · rw [show M2.chr n = n from if_neg hodd] at hxy
        have e0 : (n == 0) = false:=by simpa using fun e => hodd (Or.inl e)
        have e1 : (n == 13) = false:=by simpa using fun e => hodd (Or.inr (Or.inl e))
        have e2 : decide (1114111 < n) = false:=decide_eq_false (fun e => hodd (Or.inr (Or.inr (Or.inr e))))
        by_cases h5 : 55296 ≤ n
        · have e3 : decide (n ≤ 57343) = false:=decide_eq_false (fun e => hodd (Or.inr (Or.inr (Or.inl ⟨h5,e⟩))))
          clear hodd
          go_wp2
          go_ret2
          rw [← hxy.out]
          exact ⟨rfl,rfl⟩
        · have e4 : decide (55296 ≤ n) = false:=decide_eq_false h5
          clear hodd
          go_wp2
          go_ret2
          rw [← hxy.out]
          exact ⟨rfl,rfl⟩
end Go.Proofs.YteefodibpjgicaaGreat
