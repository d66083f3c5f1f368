/- Texts joined: Builder, Kit, Math1b. -/
import Derived.Shelf.Strings.BuilderK
import Derived.Shelf.Strings.BuilderRune
import Derived.Shelf.Strings.Prefix
import Derived.WalkKit
import Derived.Test.YteefodibpjgicaaGreatRows
import Derived.WalkSpells
import Derived.WalkLawsBesides
import Derived.Lib.ConvBytes
import Derived.Lib.UnsafeStr
import Derived.Lib.OthersKept
import Derived.Lib.Hide
import Derived.Lib.Strings
import Derived.WalkSmall
import Derived.Laws.AppendOwnNone
import Derived.Test.YteefodibpjgicaaGreatA1
namespace Go.Proofs.YteefodibpjgicaaGreat
open Go.Shelf Go.RowKit
def Tryz.lays169_ren : Go.Shelf.Ren:=⟨fun | 169 => 107 | n => n,fun | 70 => 118 | 9 => 9 | 0 => 0 | 72 => 120 | 37 => 22 | 127 => 129 | 3 => 3 | 5 => 5 | n => n,fun | n => n⟩
theorem Tryz.lays169 : Go.Proofs.Lays.n169 Tryz.prog Tryz.lays169_ren:={
  mixed:=by kernel_rfl
  f169:=Tryz.func107.trans (congrArg some (by kernel_rfl))
  t0:=Tryz.underlying0
  a0:=Tryz.isAgg0
  z0:=Tryz.sizeOf0
  v0:=Tryz.zeroValue0
  t3:=Tryz.underlying3
  a3:=Tryz.isAgg3
  z3:=Tryz.sizeOf3
  v3:=Tryz.zeroValue3
  t9:=Tryz.underlying9
  a9:=Tryz.isAgg9
  z9:=Tryz.sizeOf9
  v9:=Tryz.zeroValue9
  t37:=Tryz.underlying22
  a37:=Tryz.isAgg22
  z37:=Tryz.sizeOf22
  v37:=Tryz.zeroValue22
  t70:=Tryz.underlying118
  a70:=Tryz.isAgg118
  z70:=Tryz.sizeOf118
  v70:=Tryz.zeroValue118
  t72:=Tryz.underlying120
  a72:=Tryz.isAgg120
  z72:=Tryz.sizeOf120
  v72:=Tryz.zeroValue120
  t127:=Tryz.underlying129
  a127:=Tryz.isAgg129
  z127:=Tryz.sizeOf129
  v127:=Tryz.zeroValue129 }
theorem Tryz.Builder_Extra_169 : Builder.Extra Tryz.prog Tryz.lays169_ren:={
  sizeBuilder:=by kernel_rfl
  liesBuilder:=by kernel_rfl
  t5:=Tryz.underlying5
  a5:=Tryz.isAgg5
  z5:=Tryz.sizeOf5
  v5:=Tryz.zeroValue5
  infoByte:=by kernel_rfl
  cellsByte:=by kernel_rfl
  sizeByte:=by kernel_rfl
  neB5:=by decide }
theorem bString (B b : Nat) (l : List UInt8) (w : World) (h : Lib.IsBuilderF 120 5 B b (Lib.byteCells l) w) (hBw : B ≤ w.heap.size) :
    Calls Tryz.prog 107 #[.pointer (some ⟨b,0,none⟩)] w fun e w' => e = .returned (.string ⟨l.toArray⟩) ∧ (Lib.IsBuilderF 120 5 B b (Lib.byteCells l) w' ∧ Below B w w' ∧ Lib.OthersKept 5 (some b) w w'):=Any.Builder_String_any_k Tryz.lays169 Tryz.Builder_Extra_169 B b l w h hBw
def Tryz.lays242_ren : Go.Shelf.Ren:=⟨fun | 242 => 153 | 278 => 154 | n => n,fun | 37 => 22 | 21 => 21 | 51 => 151 | 4 => 4 | 5 => 5 | 46 => 143 | 72 => 120 | n => n,fun | n => n⟩
theorem Tryz.lays242 : Go.Proofs.Lays.n242 Tryz.prog Tryz.lays242_ren:={
  mixed:=by kernel_rfl
  f242:=Tryz.func153.trans (congrArg some (by kernel_rfl))
  f278:=Tryz.func154.trans (congrArg some (by kernel_rfl))
  t4:=Tryz.underlying4
  a4:=Tryz.isAgg4
  z4:=Tryz.sizeOf4
  v4:=Tryz.zeroValue4
  t5:=Tryz.underlying5
  a5:=Tryz.isAgg5
  z5:=Tryz.sizeOf5
  v5:=Tryz.zeroValue5
  t21:=Tryz.underlying21
  a21:=Tryz.isAgg21
  z21:=Tryz.sizeOf21
  v21:=Tryz.zeroValue21
  t37:=Tryz.underlying22
  a37:=Tryz.isAgg22
  z37:=Tryz.sizeOf22
  v37:=Tryz.zeroValue22
  t46:=Tryz.underlying143
  a46:=Tryz.isAgg143
  z46:=Tryz.sizeOf143
  v46:=Tryz.zeroValue143
  t51:=Tryz.underlying151
  a51:=Tryz.isAgg151
  z51:=Tryz.sizeOf151
  v51:=Tryz.zeroValue151 }
theorem Tryz.Builder_Extra_242 : Builder.Extra Tryz.prog Tryz.lays242_ren:={
  sizeBuilder:=by kernel_rfl
  liesBuilder:=by kernel_rfl
  t5:=Tryz.underlying5
  a5:=Tryz.isAgg5
  z5:=Tryz.sizeOf5
  v5:=Tryz.zeroValue5
  infoByte:=by kernel_rfl
  cellsByte:=by kernel_rfl
  sizeByte:=by kernel_rfl
  neB5:=by decide }
theorem u8AppendRune (B : Nat) (v : Value) (n : Nat) (xs : List Value) (r : Int) (hr0 : -2147483648 ≤ r) (hr1 : r ≤ 2147483647) (w : World) (hown : w.ownsRowF B 5 1 v n xs) (hlen : n + 4 ≤ 140737488355328) (hBw : B ≤ w.heap.size) :
    Calls Tryz.prog 153 #[v,.int .i32 r] w fun e w' => ∃ v',e = .returned v' ∧ w'.ownsRowF B 5 1 v' (n + (Lib.runeCells r).length) (xs ++ Lib.runeCells r) ∧ ∃ o,(w.alloc o).grownBy w' v.ownBlock :=
  Any.utf8_AppendRune_own Tryz.lays242 Tryz.Builder_Extra_242 B v n xs r hr0 hr1 w hown hlen hBw
def Tryz.lays206_ren : Go.Shelf.Ren:=⟨fun | 206 => 113 | n => n,fun | 9 => 9 | 4 => 4 | 3 => 3 | n => n,fun | n => n⟩
def Tryz.lays99_ren : Go.Shelf.Ren:=⟨fun | 99 => 104 | 206 => 113 | n => n,fun | 9 => 9 | 4 => 4 | 3 => 3 | n => n,fun | n => n⟩
theorem Tryz.lays99 : Go.Proofs.Lays.n99 Tryz.prog Tryz.lays99_ren:={
  mixed:=by kernel_rfl
  f99:=Tryz.func104.trans (congrArg some (by kernel_rfl))
  f206:=Tryz.func113.trans (congrArg some (by kernel_rfl))
  t3:=Tryz.underlying3
  a3:=Tryz.isAgg3
  z3:=Tryz.sizeOf3
  v3:=Tryz.zeroValue3
  t4:=Tryz.underlying4
  a4:=Tryz.isAgg4
  z4:=Tryz.sizeOf4
  v4:=Tryz.zeroValue4
  t9:=Tryz.underlying9
  a9:=Tryz.isAgg9
  z9:=Tryz.sizeOf9
  v9:=Tryz.zeroValue9 }
theorem hasPrefix_any (s p : ByteArray) (w : World) :
    Calls Tryz.prog 104 #[.string s,.string p] w fun e w' => e = .returned (.bool (Lib.hasPrefix s.data.toList p.data.toList)) ∧ w' = w:=Any.strings_HasPrefix Tryz.lays99 s p w
theorem sizeB : (Tryz.prog.info? 120).map (·.size) = some 2:=by kernel_rfl
theorem infoU8 : (Tryz.prog.info? 5).map (fun i => (i.zero,i.size,i.bytes)) = some (some (.int .u8 0),1,1):=by kernel_rfl
set_option maxHeartbeats 1000000 in
set_option maxRecDepth 100000 in
theorem copyCheck_used (b : Nat) (w : World) (h0 : w.cell? ⟨b,0,none⟩ = some (.pointer (some ⟨b,0,none⟩))) :
    Calls Tryz.prog 114 #[.pointer (some ⟨b,0,none⟩)] w fun e w' => e = .returned (.tuple #[]) ∧ w' = w:=by
  obtain ⟨j,hj,_⟩:=Option.map_eq_some_iff.1 sizeB
  go_enter Tryz.func114,Tryz.ntmps114
  go_wp2
  rw [Lib.run_neq_ptr_same w _ Tryz.underlying118 hj]
  go_wp2
  go_end0
  exact ⟨rfl,rfl⟩
set_option maxHeartbeats 1000000 in
set_option maxRecDepth 100000 in
theorem copyCheck_fresh (b : Nat) (w : World) (h0 : w.cell? ⟨b,0,none⟩ = some (.pointer none)) (hsh : w.shape? b = some (120,2)) (hfz : w.frozen? ⟨b,0,none⟩ = false) :
    Calls Tryz.prog 114 #[.pointer (some ⟨b,0,none⟩)] w fun e w' => e = .returned (.tuple #[]) ∧ w' = w.setCell ⟨b,0,none⟩ (.pointer (some ⟨b,0,none⟩)):=by
  obtain ⟨j,hj,hjs⟩:=Option.map_eq_some_iff.1 sizeB
  go_enter Tryz.func114,Tryz.ntmps114
  go_wp2
  rw [Lib.run_to_unsafe w ⟨b,0,none⟩ Tryz.underlying118 Tryz.underlying131 hj (by rw [hjs]; decide) hsh (Nat.zero_lt_succ 1)]
  simp only [Result.andThen]
  rw [Oper.upon_value]
  go_wp2
  rw [run_callFunc_extern Tryz.func122 (by kernel_rfl) (by kernel_rfl) (by kernel_rfl) (e:=Extern.AbiNoEscape.same) (by kernel_rfl)]
  rw [Lib.run_noEscape]
  simp only [Result.andThen]
  rw [Oper.upon_value]
  go_wp2
  rw [Lib.run_from_unsafe w ⟨b,0,none⟩ Tryz.underlying131 Tryz.underlying118 hj hsh (by kernel_rfl)]
  simp only [Result.andThen]
  rw [Oper.upon_value]
  go_wp2
  go_end0
  exact ⟨rfl,rfl⟩
theorem copyCheck_k (B b : Nat) (bs : List Value) (w : World) (h : Lib.IsBuilderF 120 5 B b bs w) :
    Calls Tryz.prog 114 #[.pointer (some ⟨b,0,none⟩)] w fun e w' => e = .returned (.tuple #[]) ∧ (Lib.BuilderAtF 120 5 B b (.pointer (some ⟨b,0,none⟩)) bs w' ∧ Below B w w' ∧ Lib.OthersKept 5 (some b) w w'):=by
  rcases h with h | h
  · refine (copyCheck_fresh b w h.cell0 h.shape h.frozen0).mono ?_
    rintro e w' ⟨rfl,rfl⟩
    exact ⟨rfl,h.used _,(Below.refl B w).setCell (p:=⟨b,0,none⟩) h.1 _,(Lib.OthersKept.refl _ _ w).setCell ⟨b,0,none⟩ rfl _⟩
  · refine (copyCheck_used b w h.cell0).mono ?_
    rintro e w' ⟨rfl,rfl⟩
    exact ⟨rfl,h,Below.refl B _,Lib.OthersKept.refl _ _ _⟩
set_option maxHeartbeats 2000000 in
set_option maxRecDepth 100000 in
theorem bWriteByte (B b : Nat) (bs : List Value) (c : Int) (w : World) (h : Lib.IsBuilderF 120 5 B b bs w) (hlen : bs.length + 1 ≤ 140737488355328) (hBw : B ≤ w.heap.size) :
    Calls Tryz.prog 123 #[.pointer (some ⟨b,0,none⟩),.int .u8 c] w fun e w' => e = .returned .nilIface ∧ (Lib.BuilderAtF 120 5 B b (.pointer (some ⟨b,0,none⟩)) (bs ++ [.int .u8 c]) w' ∧ Below B w w' ∧ Lib.OthersKept 5 (some b) w w'):=by
  obtain ⟨i0,hi,hz0,hz1,hz2⟩:=info_parts infoU8
  go_enter Tryz.func123,Tryz.ntmps123
  go_wp2_with (go_at_call 114; refine (copyCheck_k B b bs _ h).mono ?_)
  rintro e w1 ⟨rfl,h1,hb1,hk1⟩
  obtain ⟨hB,v,hbk,hown,hne⟩:=h1
  have c0 : w1.cell? ⟨b,0,none⟩ = some (.pointer (some ⟨b,0,none⟩)):=by rw [Lib.cell_of_heap hbk]; rfl
  have c1 : w1.cell? ⟨b,1,none⟩ = some v:=by rw [Lib.cell_of_heap hbk]; rfl
  go_wp2_with (at_builtin; refine wpList_append_ownF _ rfl _ _ 22 rfl B 5 i0 (.int .u8 0) 1 1 Tryz.underlying22 hi hz0 hz1 hz2 rfl (by decide) _ _ _ rfl (hown.alloc _) ⟨w1.heap.size,0,none⟩ 1 1 [.int .u8 c] rfl rfl ?c1 ?c2 ?c3 ?c4 ?c5 ?_)
  case c1 =>
    intro j u hj
    match j,hj with
    | 0,hj => simp at hj; subst hj; simp [Addr.add]
  case c2 => intro u hu; simp at hu; subst hu; rfl
  case c3 => unfold maxLen; omega
  case c4 => omega
  case c5 => have:=hb1.size; simp; omega
  intro v' w2 hown' hgrow _
  have hlt : b < w1.heap.size:=by
    rcases Nat.lt_or_ge b w1.heap.size with h' | h'
    · exact h'
    · simp [Array.getElem?_eq_none h'] at hbk
  have hb2 : w2.heap[b]? = some (.cells #[.pointer (some ⟨b,0,none⟩),v] 120 (0,0)):=by
    rw [hgrow.block b (by simp; omega) (fun e => hne e.symm),Lib.alloc_old w1 _ b hlt]
    exact hbk
  have d0 : w2.cell? ⟨b,0,none⟩ = some (.pointer (some ⟨b,0,none⟩)):=by rw [Lib.cell_of_heap hb2]; rfl
  have d1 : w2.cell? ⟨b,1,none⟩ = some v:=by rw [Lib.cell_of_heap hb2]; rfl
  have f1 : w2.frozen? ⟨b,1,none⟩ = false:=Lib.frozen_of_heap hb2 1
  obtain ⟨g,cap,rfl⟩ : ∃ g cap,v' = .slice (some ⟨g,0,none⟩) (bs.length + 1) cap:=by
    rcases hown'.2 with ⟨_,h0⟩ | ⟨g,cap,cur,fz,hv,_⟩
    · omega
    · exact ⟨g,cap,hv⟩
  go_wp2
  go_ret
  refine ⟨rfl,?_,?_,((hk1.alloc _).grown hgrow (Lib.ownsRowF_kind (hown.alloc _))).setCell ⟨b,1,none⟩ rfl _⟩
  · exact Lib.BuilderAtF.put (T:=120) (e:=5) hB hb2 (bs':=bs ++ [.int .u8 c]) (by simpa using hown') (by decide)
  · exact ((hb1.alloc (by have:=hb1.size; omega) _).grown hgrow (by have:=hb1.size; simp; omega) (fun k hk => (hown.lt k hk).1)).setCell (p:=⟨b,1,none⟩) hB _
set_option maxHeartbeats 4000000 in
set_option maxRecDepth 100000 in
theorem bWriteRune (B b : Nat) (bs : List Value) (r : Int) (hr0 : -2147483648 ≤ r) (hr1 : r ≤ 2147483647) (w : World) (h : Lib.IsBuilderF 120 5 B b bs w) (hlen : bs.length + 4 ≤ 140737488355328) (hBw : B ≤ w.heap.size) :
    Calls Tryz.prog 152 #[.pointer (some ⟨b,0,none⟩),.int .i32 r] w fun e w' => e = .returned (.tuple #[.int .i64 (Lib.runeCells r).length,.nilIface]) ∧ (Lib.BuilderAtF 120 5 B b (.pointer (some ⟨b,0,none⟩)) (bs ++ Lib.runeCells r) w' ∧ Below B w w' ∧ Lib.OthersKept 5 (some b) w w'):=by
  have hk4:=Lib.runeCells_le r
  go_enter Tryz.func152,Tryz.ntmps152
  go_wp2_with (go_at_call 114; refine (copyCheck_k B b bs _ h).mono ?_)
  rintro e w1 ⟨rfl,h1,hb1,hk1⟩
  obtain ⟨hB,v,hbk,hown,hne⟩:=h1
  obtain ⟨ao,cap,rfl⟩ : ∃ ao cap,v = .slice ao bs.length cap:=by
    rcases hown.2 with ⟨hv,h0⟩ | ⟨g,cap,cur,fz,hv,_⟩
    · exact ⟨none,0,by rw [hv,h0]⟩
    · exact ⟨_,_,hv⟩
  have c0 : w1.cell? ⟨b,0,none⟩ = some (.pointer (some ⟨b,0,none⟩)):=by rw [Lib.cell_of_heap hbk]; rfl
  have c1 : w1.cell? ⟨b,1,none⟩ = some (.slice ao bs.length cap):=by rw [Lib.cell_of_heap hbk]; rfl
  go_wp2_with (go_at_call 153; refine (u8AppendRune B _ bs.length bs r hr0 hr1 _ hown hlen (by have:=hb1.size; omega)).mono ?_)
  rintro e w2 ⟨v',rfl,hown',o,hgrow⟩
  have hlt : b < w1.heap.size:=by
    rcases Nat.lt_or_ge b w1.heap.size with h' | h'
    · exact h'
    · simp [Array.getElem?_eq_none h'] at hbk
  have hb2 : w2.heap[b]? = some (.cells #[.pointer (some ⟨b,0,none⟩),.slice ao bs.length cap] 120 (0,0)):=by
    rw [hgrow.block b (by simp; omega) (fun e => hne e.symm),Lib.alloc_old w1 _ b hlt]
    exact hbk
  have d0 : w2.cell? ⟨b,0,none⟩ = some (.pointer (some ⟨b,0,none⟩)):=by rw [Lib.cell_of_heap hb2]; rfl
  have d1 : w2.cell? ⟨b,1,none⟩ = some (.slice ao bs.length cap):=by rw [Lib.cell_of_heap hb2]; rfl
  have f1 : w2.frozen? ⟨b,1,none⟩ = false:=Lib.frozen_of_heap hb2 1
  obtain ⟨g,cap',rfl⟩ : ∃ g cap',v' = .slice (some ⟨g,0,none⟩) (bs.length + (Lib.runeCells r).length) cap':=by
    rcases hown'.2 with ⟨_,h0⟩ | ⟨g,cap',cur,fz,hv,_⟩
    · omega
    · exact ⟨g,cap',hv⟩
  go_wp2
  go_ret2
  refine ⟨?_,?_,?_,((hk1.alloc _).grown hgrow (Lib.ownsRowF_kind (hown.alloc _))).setCell ⟨b,1,none⟩ rfl _⟩
  · have e : ((bs.length : Int) + ((Lib.runeCells r).length : Int) - (bs.length : Int)) = ((Lib.runeCells r).length : Int):=by omega
    simp [e]
  · exact Lib.BuilderAtF.put (T:=120) (e:=5) hB hb2 (bs':=bs ++ Lib.runeCells r) (by simpa using hown') (by decide)
  · exact ((hb1.alloc (by have:=hb1.size; omega) _).grown hgrow (by have:=hb1.size; simp; omega) (fun k hk => (hown.lt k hk).1)).setCell (p:=⟨b,1,none⟩) hB _
end Go.Proofs.YteefodibpjgicaaGreat

namespace Go.Proofs.YteefodibpjgicaaGreat
open Go.RowKit
theorem ne_of_lt {α : Type} {xs : List α} {k : Nat} (h : k < xs.length) : xs ≠ []:=fun e => by subst e; simp at h
def Sl (w : World) (v : Value) (xs : List Value) : Prop :=
  ∃ (a : Option Addr) (cap : Nat),v = .slice a xs.length cap ∧ xs.length ≤ cap ∧ cap ≤ 9223372036854775807 ∧ (a = none → cap = 0) ∧
    (xs ≠ [] → ∃ b off,a = some ⟨b,off,none⟩ ∧ ∀ j (h : j < xs.length),w.cell? ⟨b,off + j,none⟩ = some xs[j])
abbrev u8s (l : List UInt8) : List Value:=Lib.byteCells l
theorem u8s_append (a b : List UInt8) : u8s (a ++ b) = u8s a ++ u8s b:=Lib.byteCells_append a b
@[simp] theorem u8s_length (a : List UInt8) : (u8s a).length = a.length:=Lib.byteCells_length a
theorem u8s_get (a : List UInt8) (k : Nat) (c : UInt8) (h : a[k]? = some c) : (u8s a)[k]? = some (.int .u8 (c.toNat : Int)):=by simp [u8s,Lib.byteCells,h]
theorem u8s_set (a : List UInt8) (k : Nat) (c : UInt8) : (u8s a).set k (.int .u8 (c.toNat : Int)) = u8s (a.set k c):=by simp [u8s,Lib.byteCells,List.map_set]
def i32s (l : List Int) : List Value:=l.map (Value.int .i32)
@[simp] theorem i32s_length (l : List Int) : (i32s l).length = l.length:=by simp [i32s]
theorem i32s_append (a b : List Int) : i32s (a ++ b) = i32s a ++ i32s b:=by simp [i32s]
theorem Sl.below {w w' : World} {v : Value} {xs : List Value} (h : Sl w v xs) (hb : Below w.heap.size w w') : Sl w' v xs:=by
  obtain ⟨a,cap,h1,h2,h3,h4,h5⟩:=h
  refine ⟨a,cap,h1,h2,h3,h4,fun hne => ?_⟩
  obtain ⟨b,off,h6,h7⟩:=h5 hne
  refine ⟨b,off,h6,fun j hj => ?_⟩
  have h8:=h7 j hj
  rw [hb.cell (World.block_lt_of_cell? w _ h8)]
  exact h8
theorem Sl.nil (w : World) : Sl w (.slice none 0 0) []:=⟨none,0,rfl,Nat.le_refl _,by omega,fun _ => rfl,fun h => absurd rfl h⟩
theorem Sl.own {w : World} {B : Nat} {e : TypeId} {v : Value} {n : Nat} {xs : List Value} (h : w.ownsRow B e 1 v n xs) : Sl w v xs:=by
  have hn : xs.length = n:=by have:=h.1; omega
  have hc:=fun g hg => h.cells (g:=g) hg
  rcases h.2 with ⟨rfl,h0⟩ | ⟨g,cap,cur,rfl,_,hg,h1,h2,h3,h4⟩
  · have : xs = []:=List.eq_nil_of_length_eq_zero (by omega)
    subst this
    exact Sl.nil w
  · unfold maxLen at h2
    refine ⟨some ⟨g,0,none⟩,cap,by rw [hn],by omega,by omega,(fun h => by cases h),fun _ => ⟨g,0,rfl,fun j hj => ?_⟩⟩
    have h5:=hc g rfl j xs[j] (List.getElem?_eq_getElem hj)
    have hplain : (⟨g,0,none⟩ : Addr).add j = ⟨g,0 + j,none⟩:=by unfold Addr.add; split <;> simp_all
    rwa [hplain] at h5
theorem Sl.bytes (w : World) (e : TypeId) (s : ByteArray) (hs : s.size ≤ 9223372036854775807) :
    Sl (Lib.bytesWorld w e s) (.slice (some ⟨w.heap.size,0,none⟩) s.size (grownCap w s.size 0 e)) (u8s s.data.toList):=by
  have hl : (u8s s.data.toList).length = s.size:=by rw [u8s,Lib.byteCells_length]; rfl
  have h1:=grownCap_ge w s.size 0 e
  have h2:=grownCap_le_maxLen w s.size 0 e (by unfold maxLen; omega)
  unfold maxLen at h2
  refine ⟨_,_,by rw [hl],by omega,by omega,(fun h => by cases h),fun _ => ⟨_,0,rfl,fun j hj => ?_⟩⟩
  rw [Nat.zero_add,Lib.bytesWorld_cell w e s j (by omega)]
  have hj' : j < s.data.toList.length:=by rw [hl] at hj; exact hj
  simp [u8s,Lib.byteCells,List.getD_eq_getElem?_getD,List.getElem?_eq_getElem hj']
theorem below_bytesWorld (w : World) (e : TypeId) (s : ByteArray) : Below w.heap.size w (Lib.bytesWorld w e s) :=
  ⟨by simp [Lib.bytesWorld,World.freeze,World.alloc,World.drew,-World.alloc_eq,-World.drew_eq],by simp [Lib.bytesWorld,World.freeze,World.alloc,World.drew,-World.alloc_eq,-World.drew_eq],
    by simp [Lib.bytesWorld,World.freeze,World.alloc,World.drew,-World.alloc_eq,-World.drew_eq],by rw [Lib.bytesWorld_size]; omega,fun k hk => Lib.bytesWorld_at_old w e s k hk⟩
theorem Sl.toString {P : Program} {w : World} {v : Value} {l : List UInt8} (h : Sl w v (u8s l)) (src dst e : TypeId) (hs : P.underlying src = some (.slice e)) (he : P.underlying e = some (.int .u8)) (hd : P.underlying dst = some .string) :
    (convert src dst v).run P w = .ok (.string ⟨l.toArray⟩) w:=by
  obtain ⟨a,cap,rfl,h2,h3,h4,h5⟩:=h
  have hl : (u8s l).length = l.length:=Lib.byteCells_length l
  cases a with
  | none =>
    have : l = []:=List.eq_nil_of_length_eq_zero (by have:=h4 rfl; omega)
    subst this
    rw [run_convert_bytes_nil w src e hs he _ _ dst hd]
    rfl
  | some a =>
    rw [hl]
    refine run_convert_bytes_back w src dst e a cap l hs he hd fun j hj => ?_
    obtain ⟨b,off,h6,h7⟩:=h5 (fun h0 => by rw [h0] at hl; simp at hl; omega)
    cases h6
    have hplain : (⟨b,off,none⟩ : Addr).add j = ⟨b,off + j,none⟩:=by unfold Addr.add; split <;> simp_all
    rw [hplain,h7 j (by omega)]
    simp [u8s,Lib.byteCells]
theorem grownBy_of_alloc {w w2 : World} {o : Obj} {row : Option Nat} (h : (w.alloc o).grownBy w2 row) : w.grownBy w2 row :=
  ⟨h.os,h.tape,h.output,Nat.le_trans (by simp) h.size,fun k hk hne => by rw [h.block k (by simp; omega) hne]; exact Lib.alloc_old w o k hk⟩
theorem wpList_app1 {P : Program} {ops : Array Oper} {rest : List Oper} {o : Oper} {a : Act} {Q : Exit → Act → World → Prop} (w1 : World) (x : Value) (hgd : o.guard = none) (s y : Operand) (t e : TypeId)
    (ho : o.op = .call { callee:=.builtin .append,args:=#[s,y],argTypes:=#[t,t] }) (base : Nat) {z : Value} {bytes : Nat} (ht : P.underlying t = some (.slice e))
    (hinfo : (P.info? e).map (fun i => (i.zero,i.size,i.bytes)) = some (some z,1,bytes)) (hz : z.cells.size = 1)
    (v : Value) (n : Nat) (xs : List Value) (hs : a.eval s = v) (hown : w1.ownsRow base e 1 v n xs) (hx : a.eval y = .slice (some ⟨w1.heap.size,0,none⟩) 1 1) (h1 : x.oneCell' = true)
    (h63 : n + 1 ≤ 9223372036854775807) (hbytes : (n + 1) * bytes ≤ 140737488355328) (hbase : base ≤ w1.heap.size)
    (h : ∀ v' w2,w2.ownsRow base e 1 v' (n + 1) (xs ++ [x]) → w1.grownBy w2 v.ownBlock → wpList P ops Q rest (a.put o.dst v') w2) : wpList P ops Q (o :: rest) a (w1.alloc (.cells #[x] e)):=by
  obtain ⟨i,hi,hz0,hz1,hz2⟩:=info_parts hinfo
  refine wpList_append_own _ hgd s y t ho base e i z 1 bytes ht hi hz0 hz1 hz2 hz (by decide) v n xs hs (hown.alloc _) ⟨w1.heap.size,0,none⟩ 1 1 [x] hx rfl ?_ ?_ (by unfold maxLen; omega) hbytes (by simp; omega) ?_
  · intro j u hj
    match j,hj with
    | 0,hj => simp at hj; subst hj; simp [Addr.add]
  · intro u hu; simp at hu; subst hu; exact h1
  · intro v' w2 h2 h3 _
    exact h v' w2 h2 (grownBy_of_alloc h3)
theorem wpList_appSl {P : Program} {ops : Array Oper} {rest : List Oper} {o : Oper} {a : Act} {Q : Exit → Act → World → Prop} (w1 : World) (hgd : o.guard = none) (s y : Operand) (t e : TypeId)
    (ho : o.op = .call { callee:=.builtin .append,args:=#[s,y],argTypes:=#[t,t] }) (base : Nat) {z : Value} {bytes : Nat} (ht : P.underlying t = some (.slice e))
    (hinfo : (P.info? e).map (fun i => (i.zero,i.size,i.bytes)) = some (some z,1,bytes)) (hz : z.cells.size = 1)
    (v : Value) (n : Nat) (xs : List Value) (hs : a.eval s = v) (hown : w1.ownsRow base e 1 v n xs) (yv : Value) (ys : List Value) (hy : a.eval y = yv) (hx : Sl w1 yv ys) (h1 : ∀ u ∈ ys,u.oneCell' = true)
    (h63 : n + ys.length ≤ 9223372036854775807) (hbytes : (n + ys.length) * bytes ≤ 140737488355328) (hbase : base ≤ w1.heap.size)
    (h : ∀ v' w2,w2.ownsRow base e 1 v' (n + ys.length) (xs ++ ys) → w1.grownBy w2 v.ownBlock → wpList P ops Q rest (a.put o.dst v') w2) : wpList P ops Q (o :: rest) a w1:=by
  obtain ⟨i,hi,hz0,hz1,hz2⟩:=info_parts hinfo
  obtain ⟨ad,cap,rfl,h2,h3,h4,h5⟩:=hx
  cases ad with
  | none =>
    have h6:=h4 rfl
    have h7 : ys = []:=List.eq_nil_of_length_eq_zero (by omega)
    subst h7
    subst h6
    refine wpList_append_own_none hgd s y t ho base e i 1 ht hi v n xs hs hown hy ?_
    have:=h v w1 (by simpa using hown) ⟨rfl,rfl,rfl,Nat.le_refl _,fun _ _ _ => rfl⟩
    exact this
  | some ad =>
    refine wpList_append_own _ hgd s y t ho base e i z 1 bytes ht hi hz0 hz1 hz2 hz (by decide) v n xs hs hown ad ys.length cap ys hy (by omega) ?_ h1 (by unfold maxLen; omega) hbytes hbase ?_
    · intro j u hj
      obtain ⟨hj',e⟩:=List.getElem?_eq_some_iff.1 hj
      obtain ⟨b,off,h6,h7⟩:=h5 (ne_of_lt hj')
      cases h6
      have hplain : (⟨b,off,none⟩ : Addr).add j = ⟨b,off + j,none⟩:=by unfold Addr.add; split <;> simp_all
      rw [hplain,h7 j hj',e]
    · intro v' w2 h8 h9 _
      exact h v' w2 h8 h9
theorem owns_below {w w1 : World} {base : Nat} {e : TypeId} {v : Value} {n : Nat} {xs : List Value} (h : w.ownsRow base e 1 v n xs) (hb : Below w.heap.size w w1) : w1.ownsRow base e 1 v n xs :=
  h.kept (row:=none) ⟨hb.os,hb.tape,hb.output,hb.size,fun k hk _ => hb.block k hk⟩ (by cases h : v.ownBlock <;> simp)
theorem Sl.drop {w : World} {b off n cap : Nat} {xs : List Value} (h : Sl w (.slice (some ⟨b,off,none⟩) n cap) xs) (k : Nat) (hk : k ≤ n) : Sl w (.slice (some ⟨b,off + k,none⟩) (n - k) (cap - k)) (xs.drop k):=by
  obtain ⟨a,cap',h1,h2,h3,h4,h5⟩:=h
  cases h1
  refine ⟨some ⟨b,off + k,none⟩,cap - k,by rw [List.length_drop],by rw [List.length_drop]; omega,by omega,(fun h => by cases h),fun hne => ?_⟩
  have h6 : k < xs.length:=by
    rcases Nat.lt_or_ge k xs.length with h6 | h6
    · exact h6
    · exact absurd (List.drop_of_length_le h6) hne
  obtain ⟨b',off',h7,h8⟩:=h5 (ne_of_lt h6)
  cases h7
  refine ⟨b,off + k,rfl,fun j hj => ?_⟩
  rw [List.length_drop] at hj
  rw [Nat.add_assoc,h8 (k + j) (by omega),List.getElem_drop]
theorem below_row {B base : Nat} {e : TypeId} {n : Nat} {v : Value} {xs : List Value} {a w w' : World} (h : Below B a w) (hown : w.ownsRow base e 1 v n xs) (hg : w.grownBy w' v.ownBlock) (hB : B ≤ w.heap.size) (hb : B ≤ base) : Below B a w' :=
  h.grown hg hB (fun k hk => by have:=(hown.lt k hk).1; omega)
theorem extract_end (s : ByteArray) (a : Nat) : (s.extract a s.size).data.toList = s.data.toList.drop a:=by
  rw [Lib.extract_data,List.take_of_length_le]
  rw [List.length_drop]
  exact Nat.le_refl _
def MutRow (w : World) (b : Nat) (xs : List Value) : Prop:=∀ j (h : j < xs.length),w.cell? ⟨b,j,none⟩ = some xs[j] ∧ w.frozen? ⟨b,j,none⟩ = false
theorem MutRow.at {w : World} {b : Nat} {xs : List Value} (h : MutRow w b xs) {k : Nat} {x : Value} (hx : xs[k]? = some x) : w.cell? ⟨b,k,none⟩ = some x ∧ w.frozen? ⟨b,k,none⟩ = false:=by
  obtain ⟨hk,e⟩:=List.getElem?_eq_some_iff.1 hx
  have:=h k hk
  rwa [e] at this
theorem MutRow.set {w : World} {b : Nat} {xs : List Value} (h : MutRow w b xs) {k : Nat} (hk : k < xs.length) (v : Value) : MutRow (w.setCell ⟨b,k,none⟩ v) b (xs.set k v):=by
  intro j hj
  rw [List.length_set] at hj
  refine ⟨?_,(World.frozen?_setCell _ _ _ _).trans (h j hj).2⟩
  by_cases e : k = j
  · subst e
    rw [World.cell?_setCell_same _ _ _ (h k hk).1]
    simp
  · rw [World.cell?_setCell_other _ _ _ _ (by simp),(h j hj).1,List.getElem_set_ne e]
theorem MutRow.sl {w : World} {b cap : Nat} {xs : List Value} (h : MutRow w b xs) (h1 : xs.length ≤ cap) (h2 : cap ≤ 9223372036854775807) : Sl w (.slice (some ⟨b,0,none⟩) xs.length cap) xs :=
  ⟨_,_,rfl,h1,h2,(fun h => by cases h),fun _ => ⟨b,0,rfl,fun j hj => by rw [Nat.zero_add]; exact (h j hj).1⟩⟩
theorem MutRow.bytes (w : World) (e : TypeId) (s : ByteArray) : MutRow (Lib.bytesWorld w e s) w.heap.size (u8s s.data.toList):=by
  intro j hj
  have hl : (u8s s.data.toList).length = s.size:=by rw [u8s_length]; rfl
  have h1:=grownCap_ge w s.size 0 e
  refine ⟨?_,?_⟩
  · rw [Lib.bytesWorld_cell w e s j (by omega)]
    have hj' : j < s.data.toList.length:=by rw [hl] at hj; exact hj
    simp [u8s,Lib.byteCells,List.getD_eq_getElem?_getD,List.getElem?_eq_getElem hj']
  · unfold World.frozen?
    rw [Lib.bytesWorld_at_new]
    have : s.size ≤ (Lib.bytesCells w e s).size:=by
      unfold Lib.bytesCells
      rw [Array.size_append,Array.size_map]
      exact Nat.le_add_right _ _
    simp
    omega
end Go.Proofs.YteefodibpjgicaaGreat

namespace Go.Proofs.YteefodibpjgicaaGreat
namespace M1
def foll (c : Nat) : Prop:=128 ≤ c ∧ c < 192
def Cls (c n v least : Nat) : Prop:=(192 ≤ c ∧ c < 224 ∧ n = 2 ∧ v + 192 = c ∧ least = 128) ∨ (224 ≤ c ∧ c < 240 ∧ n = 3 ∧ v + 224 = c ∧ least = 2048) ∨ (240 ≤ c ∧ c < 248 ∧ n = 4 ∧ v + 240 = c ∧ least = 65536)
def at_ (l : List UInt8) (k : Nat) : Nat:=(l.getD k 0).toNat
theorem at_lt (l : List UInt8) (k : Nat) : at_ l k < 256:=(l.getD k 0).toNat_lt
def vv (l : List UInt8) (v : Nat) : Nat → Nat
  | 0 => v
  | 1 => v
  | k + 2 => 64 * vv l v (k + 1) + at_ l (k + 1) - 128
def badv (v least : Nat) : Prop:=v < least ∨ v > 1114111 ∨ (55296 ≤ v ∧ v ≤ 57343)
instance (v least : Nat) : Decidable (badv v least):=by unfold badv; infer_instance
instance (c : Nat) : Decidable (foll c):=by unfold foll; infer_instance
theorem dec_at (l : List UInt8) : dec l = if at_ l 0 < 0x80 then (at_ l 0,1)
  else if at_ l 0 / 32 == 6 && (decide (1 < l.length) && at_ l 1 / 64 == 2) then
    if (at_ l 0 % 32) * 64 + at_ l 1 % 64 ≥ 0x80 then ((at_ l 0 % 32) * 64 + at_ l 1 % 64,2) else (65533,1)
  else if at_ l 0 / 16 == 14 && (decide (1 < l.length) && at_ l 1 / 64 == 2) && (decide (2 < l.length) && at_ l 2 / 64 == 2) then
    if (at_ l 0 % 16) * 4096 + (at_ l 1 % 64) * 64 + at_ l 2 % 64 ≥ 0x800 && decide (okRune ((at_ l 0 % 16) * 4096 + (at_ l 1 % 64) * 64 + at_ l 2 % 64 : Nat)) then
      ((at_ l 0 % 16) * 4096 + (at_ l 1 % 64) * 64 + at_ l 2 % 64,3) else (65533,1)
  else if at_ l 0 / 8 == 30 && (decide (1 < l.length) && at_ l 1 / 64 == 2) && (decide (2 < l.length) && at_ l 2 / 64 == 2) && (decide (3 < l.length) && at_ l 3 / 64 == 2) then
    if (at_ l 0 % 8) * 262144 + (at_ l 1 % 64) * 4096 + (at_ l 2 % 64) * 64 + at_ l 3 % 64 ≥ 0x10000 && decide (okRune ((at_ l 0 % 8) * 262144 + (at_ l 1 % 64) * 4096 + (at_ l 2 % 64) * 64 + at_ l 3 % 64 : Nat)) then
      ((at_ l 0 % 8) * 262144 + (at_ l 1 % 64) * 4096 + (at_ l 2 % 64) * 64 + at_ l 3 % 64,4) else (65533,1)
  else (65533,1):=by
  simp only [← valid_iff]; rfl
theorem dec_low (l : List UInt8) (h : at_ l 0 < 128) : dec l = (at_ l 0,1):=by rw [dec_at,if_pos h]
theorem dec_none (l : List UInt8) (h : 128 ≤ at_ l 0) (h2 : at_ l 0 < 192 ∨ 248 ≤ at_ l 0) : dec l = (65533,1):=by
  have:=at_lt l 0
  rw [dec_at,if_neg (by omega),if_neg (by simp; omega),if_neg (by simp; omega),if_neg (by simp; omega)]
theorem dec_short (l : List UInt8) {n v least : Nat} (h : Cls (at_ l 0) n v least) (h2 : l.length < n) : dec l = (65533,1):=by
  rcases h with ⟨h3,h4,rfl,h5,rfl⟩ | ⟨h3,h4,rfl,h5,rfl⟩ | ⟨h3,h4,rfl,h5,rfl⟩
  all_goals rw [dec_at,if_neg (by omega),if_neg (by simp; omega),if_neg (by simp; omega),if_neg (by simp; omega)]
theorem dec_stop (l : List UInt8) {n v least : Nat} (h : Cls (at_ l 0) n v least) (k : Nat) (h1 : 1 ≤ k) (hk : k < n) (h2 : ¬ foll (at_ l k)) : dec l = (65533,1):=by
  have hb:=at_lt l k
  unfold foll at h2
  have h2' : ¬ at_ l k / 64 = 2:=by omega
  rcases h with ⟨h3,h4,rfl,h5,rfl⟩ | ⟨h3,h4,rfl,h5,rfl⟩ | ⟨h3,h4,rfl,h5,rfl⟩
  · obtain rfl : k = 1:=by omega
    rw [dec_at,if_neg (by omega),if_neg (by simp [h2']),if_neg (by simp; omega),if_neg (by simp; omega)]
  · rcases (by omega : k = 1 ∨ k = 2) with rfl | rfl
    all_goals rw [dec_at,if_neg (by omega),if_neg (by simp; omega),if_neg (by simp [h2']),if_neg (by simp; omega)]
  · rcases (by omega : k = 1 ∨ k = 2 ∨ k = 3) with rfl | rfl | rfl
    all_goals rw [dec_at,if_neg (by omega),if_neg (by simp; omega),if_neg (by simp; omega),if_neg (by simp [h2'])]
set_option maxRecDepth 10000 in
theorem dec_full (l : List UInt8) {n v least : Nat} (h : Cls (at_ l 0) n v least) (hl : n ≤ l.length) (hf : ∀ k,1 ≤ k → k < n → foll (at_ l k)) : dec l = if badv (vv l v n) least then (65533,1) else (vv l v n,n):=by
  have b1:=at_lt l 1
  have b2:=at_lt l 2
  have b3:=at_lt l 3
  rcases h with ⟨h3,h4,rfl,h5,rfl⟩ | ⟨h3,h4,rfl,h5,rfl⟩ | ⟨h3,h4,rfl,h5,rfl⟩
  · have f1:=hf 1 (by omega) (by omega)
    unfold foll at f1
    have e : vv l v 2 = (at_ l 0 % 32) * 64 + at_ l 1 % 64:=by
      have : vv l v 2 = 64 * v + at_ l 1 - 128:=rfl
      omega
    rw [dec_at,if_neg (by omega),if_pos (by simp; omega),e]
    by_cases hb : (at_ l 0 % 32) * 64 + at_ l 1 % 64 ≥ 128
    · rw [if_pos hb,if_neg (by unfold badv; omega)]
    · rw [if_neg hb,if_pos (by unfold badv; omega)]
  · have f1:=hf 1 (by omega) (by omega)
    have f2:=hf 2 (by omega) (by omega)
    unfold foll at f1 f2
    have e : vv l v 3 = (at_ l 0 % 16) * 4096 + (at_ l 1 % 64) * 64 + at_ l 2 % 64:=by
      have : vv l v 3 = 64 * (64 * v + at_ l 1 - 128) + at_ l 2 - 128:=rfl
      omega
    rw [dec_at,if_neg (by omega),if_neg (by simp; omega),if_pos (by simp; omega),e]
    generalize (at_ l 0 % 16) * 4096 + (at_ l 1 % 64) * 64 + at_ l 2 % 64 = x at *
    by_cases hb : badv x 2048
    · rw [if_pos hb,if_neg (by simp [okRune]; unfold badv at hb; omega)]
    · rw [if_neg hb,if_pos (by simp [okRune]; unfold badv at hb; omega)]
  · have f1:=hf 1 (by omega) (by omega)
    have f2:=hf 2 (by omega) (by omega)
    have f3:=hf 3 (by omega) (by omega)
    unfold foll at f1 f2 f3
    have e : vv l v 4 = (at_ l 0 % 8) * 262144 + (at_ l 1 % 64) * 4096 + (at_ l 2 % 64) * 64 + at_ l 3 % 64:=by
      have : vv l v 4 = 64 * (64 * (64 * v + at_ l 1 - 128) + at_ l 2 - 128) + at_ l 3 - 128:=rfl
      omega
    rw [dec_at,if_neg (by omega),if_neg (by simp; omega),if_neg (by simp; omega),if_pos (by simp; omega),e]
    generalize (at_ l 0 % 8) * 262144 + (at_ l 1 % 64) * 4096 + (at_ l 2 % 64) * 64 + at_ l 3 % 64 = x at *
    by_cases hb : badv x 65536
    · rw [if_pos hb,if_neg (by simp [okRune]; unfold badv at hb; omega)]
    · rw [if_neg hb,if_pos (by simp [okRune]; unfold badv at hb; omega)]
def prev (rs : List Int) : Nat → Bool
  | 0 => false
  | k + 1 => decide (rs.getD k 0 = 13)
def piece (x : Int) (p : Bool) : List Int:=if x = 13 then [10] else if x = 10 ∧ p = true then [] else if x = 0 then [65533] else [x]
theorem mk_drop (rs : List Int) (k : Nat) (h : k < rs.length) : mk (prev rs k) (rs.drop k) = piece rs[k] (prev rs k) ++ mk (prev rs (k + 1)) (rs.drop (k + 1)):=by
  rw [List.drop_eq_getElem_cons h,mk]
  have : prev rs (k + 1) = decide (rs[k] = 13):=by simp [prev,List.getD_eq_getElem?_getD,List.getElem?_eq_getElem h]
  rw [this]; rfl
end M1
end Go.Proofs.YteefodibpjgicaaGreat
