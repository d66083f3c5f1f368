/- Texts joined: Refs. -/
import Derived.BigCall
import Derived.Deep.QuietTactic
import Derived.BigQuiet
import Derived.IntWalk
import Derived.Test.YteefodibpjgicaaGreatA2
import Derived.Test.YteefodibpjgicaaGreatA6
import Derived.Test.YteefodibpjgicaaGreatA14
namespace Go.Proofs.YteefodibpjgicaaGreat
open Go.RowKit Go.Maps Go.WideShapes
theorem zero32 (w : World) : (zeroValue 21).run Tryz.prog w = .ok (.int .i32 0) w:=by kernel_rfl
def namesL : List (Lit × DataW Unit):=M2.tbl.map fun p => (.string p.1,.lit (.int .i32 (p.2 : Int)))
def namesD : DataW Unit:=rowD namesL (.map [])
theorem namesL_keys : ∀ p ∈ namesL,WideAt.IsKeyLit p.1:=by
  intro p hp
  obtain ⟨q,_,rfl⟩:=List.mem_map.1 hp
  trivial
theorem namesL_apart : namesL.Pairwise (fun p q => p.1 ≠ q.1):=by
  rw [namesL,List.pairwise_map]
  exact M2.tbl_apart.imp (fun h e => h (by simpa using e))
theorem names_has (s : List UInt8) : Maps.has namesD (.string s) = (M2.nm s).isSome:=by
  unfold namesD
  rw [rowD_has _ _ _ isMap_empty namesL_keys,has_eq,List.any_nil,Bool.or_false]
  rw [Bool.eq_iff_iff,List.any_eq_true]
  constructor
  · rintro ⟨p,hp,h⟩
    obtain ⟨q,hq,rfl⟩:=List.mem_map.1 hp
    have h:=WideAt.sameKey_eq h
    simp only [Lit.string.injEq] at h
    rw [← h,M2.nm_of_mem hq]
    rfl
  · intro h
    obtain ⟨n,hn⟩:=Option.isSome_iff_exists.1 h
    exact ⟨_,List.mem_map.2 ⟨_,M2.nm_mem hn,rfl⟩,WideAt.sameKey_self (by trivial)⟩
theorem names_at (s : List UInt8) : namesD.atKey (.string s) (.lit (.int .i32 0)) = .lit (.int .i32 (((M2.nm s).getD 0 : Nat) : Int)):=by
  cases h : M2.nm s with
  | none =>
    refine atKey_of_not_has ?_ _
    rw [names_has,h]
    rfl
  | some n => exact rowD_at namesL _ _ (.string s,.lit (.int .i32 (n : Int))) isMap_empty namesL_keys namesL_apart (List.mem_map.2 ⟨_,M2.nm_mem h,rfl⟩)
abbrev Names (w : World) (b : Nat) : Prop:=w.ownsMap Tryz.prog 9 (plainElem Tryz.prog 21) b 15 namesD
set_option maxHeartbeats 4000000 in
set_option maxRecDepth 100000 in
theorem refsNames (w : World) :
    Calls Tryz.prog 177 #[] w fun e w' => ∃ b,e = .returned (.map (some b)) ∧ Names w' b ∧ Below w.heap.size w w':=by
  have upd : ∀ (wa : World) (D : DataW Unit) (n : Nat) (l : List UInt8) (c : Int),wa.ownsMap Tryz.prog 9 (plainElem Tryz.prog 21) w.heap.size n D → n < 100 → l.length ≤ 100 → 0 ≤ c → c ≤ 10000 →
      ∃ wb,(Instr.mapUpdate 173 (.map (some w.heap.size)) (.string ⟨l.toArray⟩) (.int .i32 c)).run Tryz.prog wa = .ok () wb ∧ wb.ownsMap Tryz.prog 9 (plainElem Tryz.prog 21) w.heap.size (n + 1) (D.put (.string l) (.lit (.int .i32 c))) ∧ wa.grownBy wb (some w.heap.size):=by
    intro wa D n l c ho hn hl h0 h1
    refine ho.update lawS Tryz.underlying173 (by unfold maxLen; omega) (WideMaps.keyOf_string_mk Tryz.underlying9 (s:=⟨l.toArray⟩) (by unfold maxLen; show l.length ≤ _; omega)) (plainElem_int Tryz.underlying21 ?_)
    have h3 : IntKind.i32.min = -2147483648:=rfl
    have h4 : IntKind.i32.max = 2147483647:=rfl
    simp only [Lit.wf,Bool.and_eq_true,decide_eq_true_eq,h3,h4]
    omega
  have o0:=World.ownsMap_made w Tryz.prog 9 (plainElem (H:=Unit) Tryz.prog 21)
  have b0:=(Below.refl w.heap.size w).alloc (Nat.le_refl _) (.map #[] 0)
  have hmm:=@run_makeMap Tryz.prog 173 w
  generalize w.alloc (.map #[] 0) = w0 at *
  obtain ⟨w1,r1,o1,g1⟩:=upd w0 _ 0 [97,109,112] 38 o0 (by decide) (by decide) (by decide) (by decide)
  obtain ⟨w2,r2,o2,g2⟩:=upd w1 _ 1 [108,116] 60 o1 (by decide) (by decide) (by decide) (by decide)
  obtain ⟨w3,r3,o3,g3⟩:=upd w2 _ 2 [103,116] 62 o2 (by decide) (by decide) (by decide) (by decide)
  obtain ⟨w4,r4,o4,g4⟩:=upd w3 _ 3 [113,117,111,116] 34 o3 (by decide) (by decide) (by decide) (by decide)
  obtain ⟨w5,r5,o5,g5⟩:=upd w4 _ 4 [97,112,111,115] 39 o4 (by decide) (by decide) (by decide) (by decide)
  obtain ⟨w6,r6,o6,g6⟩:=upd w5 _ 5 [110,98,115,112] 160 o5 (by decide) (by decide) (by decide) (by decide)
  obtain ⟨w7,r7,o7,g7⟩:=upd w6 _ 6 [99,111,112,121] 169 o6 (by decide) (by decide) (by decide) (by decide)
  obtain ⟨w8,r8,o8,g8⟩:=upd w7 _ 7 [114,101,103] 174 o7 (by decide) (by decide) (by decide) (by decide)
  obtain ⟨w9,r9,o9,g9⟩:=upd w8 _ 8 [100,101,103] 176 o8 (by decide) (by decide) (by decide) (by decide)
  obtain ⟨w10,r10,o10,g10⟩:=upd w9 _ 9 [109,105,100,100,111,116] 183 o9 (by decide) (by decide) (by decide) (by decide)
  obtain ⟨w11,r11,o11,g11⟩:=upd w10 _ 10 [116,105,109,101,115] 215 o10 (by decide) (by decide) (by decide) (by decide)
  obtain ⟨w12,r12,o12,g12⟩:=upd w11 _ 11 [110,100,97,115,104] 8211 o11 (by decide) (by decide) (by decide) (by decide)
  obtain ⟨w13,r13,o13,g13⟩:=upd w12 _ 12 [109,100,97,115,104] 8212 o12 (by decide) (by decide) (by decide) (by decide)
  obtain ⟨w14,r14,o14,g14⟩:=upd w13 _ 13 [104,101,108,108,105,112] 8230 o13 (by decide) (by decide) (by decide) (by decide)
  obtain ⟨w15,r15,o15,g15⟩:=upd w14 _ 14 [101,117,114,111] 8364 o14 (by decide) (by decide) (by decide) (by decide)
  have hb:=(World.grownBy.trans g1 (g2.trans (g3.trans (g4.trans (g5.trans (g6.trans (g7.trans (g8.trans (g9.trans (g10.trans (g11.trans (g12.trans (g13.trans (g14.trans g15))))))))))))))
  have hB:=Lib.hid (b0.grown hb b0.size (fun k hk => by cases hk; exact Nat.le_refl _))
  have hN : Hid (Names w15 w.heap.size):=o15
  clear upd b0 o0 o1 o2 o3 o4 o5 o6 o7 o8 o9 o10 o11 o12 o13 o14 o15 g1 g2 g3 g4 g5 g6 g7 g8 g9 g10 g11 g12 g13 g14 g15 hb
  go_enter Tryz.func177,Tryz.ntmps177
  go_wp2
  go_ret
  exact ⟨_,rfl,hN.out,hB.out⟩
set_option maxHeartbeats 1000000 in
theorem refsDigit (r : Int) (w : World) :
    Calls Tryz.prog 198 #[.int .i32 r] w fun e w' => e = .returned (.int .i32 (M2.digZ r)) ∧ w' = w:=by
  by_cases h1 : 48 ≤ r ∧ r ≤ 57
  · rw [show M2.digZ r = r - 48 from if_pos h1]
    obtain ⟨h1,h2⟩:=h1
    go_enter Tryz.func198,Tryz.ntmps198
    go_wp2
    go_ret
    exact ⟨rfl,rfl⟩
  by_cases h2 : 97 ≤ r ∧ r ≤ 102
  · rw [show M2.digZ r = r - 97 + 10 by rw [M2.digZ,if_neg h1,if_pos h2]]
    obtain ⟨h2,h3⟩:=h2
    have hd : decide (r ≤ 57) = false:=decide_eq_false (by omega)
    clear h1
    go_enter Tryz.func198,Tryz.ntmps198
    go_wp2
    go_ret
    exact ⟨rfl,rfl⟩
  by_cases h3 : 65 ≤ r ∧ r ≤ 70
  · rw [show M2.digZ r = r - 65 + 10 by rw [M2.digZ,if_neg h1,if_neg h2,if_pos h3]]
    obtain ⟨h3,h4⟩:=h3
    have hd : decide (r ≤ 57) = false:=decide_eq_false (by omega)
    have hd2 : decide (97 ≤ r) = false:=decide_eq_false (by omega)
    clear h1 h2
    go_enter Tryz.func198,Tryz.ntmps198
    go_wp2
    go_ret
    exact ⟨rfl,rfl⟩
  · rw [show M2.digZ r = -1 by rw [M2.digZ,if_neg h1,if_neg h2,if_neg h3]]
    go_enter Tryz.func198,Tryz.ntmps198
    go_wp2
    all_goals first | (exfalso; omega) | (go_ret; exact ⟨rfl,rfl⟩)
set_option maxHeartbeats 1000000 in
theorem refsCharacter (n : Int) (w : World) :
    Calls Tryz.prog 196 #[.int .i32 n] w fun e w' => e = .returned (.int .i32 (M2.chr n)) ∧ w' = w:=by
  by_cases h : n = 0 ∨ n = 13 ∨ (55296 ≤ n ∧ n ≤ 57343) ∨ 1114111 < n
  · rw [show M2.chr n = 65533 from if_pos h]
    go_enter Tryz.func196,Tryz.ntmps196
    go_wp2
    all_goals first | (exfalso; omega) | (go_ret; exact ⟨rfl,rfl⟩)
  · rw [show M2.chr n = n from if_neg h]
    have e0 : (n == 0) = false:=by simpa using fun e => h (Or.inl e)
    have e1 : (n == 13) = false:=by simpa using fun e => h (Or.inr (Or.inl e))
    have e2 : decide (1114111 < n) = false:=decide_eq_false (fun e => h (Or.inr (Or.inr (Or.inr e))))
    by_cases h5 : 55296 ≤ n
    · have e3 : decide (n ≤ 57343) = false:=decide_eq_false (fun e => h (Or.inr (Or.inr (Or.inl ⟨h5,e⟩))))
      clear h
      go_enter Tryz.func196,Tryz.ntmps196
      go_wp2
      go_ret
      exact ⟨rfl,rfl⟩
    · have e4 : decide (55296 ≤ n) = false:=decide_eq_false h5
      clear h
      go_enter Tryz.func196,Tryz.ntmps196
      go_wp2
      go_ret
      exact ⟨rfl,rfl⟩
theorem nextDec {P : Program} (w : World) (k : Nat) (s : ByteArray) (pos : Nat) (hk : w.heap[k]? = some (.stringIter s pos)) (h : pos < s.size) : ∀ ty,
    (Instr.next (.pointer (some ⟨k,0,none⟩)) true ty).run P w =
      .ok (.tuple #[.bool true,.int .i64 pos,.int .i32 (M1.dec (s.data.toList.drop pos)).1]) (w.iterAt k s (pos + (M1.dec (s.data.toList.drop pos)).2)):=fun ty => by
  rw [Lib.run_next_any_at w k s pos ty hk h,M1.decode_eq]
set_option maxHeartbeats 2000000 in
set_option maxRecDepth 100000 in
theorem refsNumber (s : ByteArray) (b m : Nat) (w : World) (hb0 : 1 ≤ b) (hb : b ≤ 16) (hm : m ≤ 7) (hpow : ∀ k,k ≤ m → ((b : Int)) ^ k ≤ 16777216) (hs : s.size ≤ 9223372036854775807) :
    Calls Tryz.prog 195 #[.string s,.int .i32 (b : Int),.int .i64 (m : Int)] w fun e w' => e = .returned (.tuple #[.int .i32 (M2.val b (M2.digs b m s.data.toList)),.int .i64 ((M2.digs b m s.data.toList).length : Int)]) ∧ Below w.heap.size w w':=by
  have hsz : s.size = s.data.toList.length:=rfl
  generalize hl : s.data.toList = l at *
  replace hpow:=Lib.hid hpow
  go_enter Tryz.func195,Tryz.ntmps195
  go_wp2
  go_loopw [8,9] (fun u8 u9 wr => ∃ k : Nat,k ≤ l.length ∧ k ≤ m ∧ u8 = .int .i32 (M2.val b (l.take k)) ∧ u9 = .int .i64 (k : Int) ∧ wr.heap[w.heap.size]? = some (.stringIter s k) ∧ Below w.heap.size w wr ∧ Hid (∀ c ∈ l.take k,M2.isD b c = true)) (fun _ _ wr => l.length - wr.iterPos w.heap.size)
  case atStart =>
    exact ⟨0,by omega,by omega,rfl,rfl,World.iter_heap w _ 0,(Below.refl _ w).alloc (Nat.le_refl _) _,by intro c hc; simp at hc⟩
  case round =>
    obtain ⟨k,hk,hkm,rfl,rfl,hit,hbw,hall⟩:=hrel
    have hbd:=M2.val_bd b _ hall.out
    have hlk : (l.take k).length = k:=by rw [List.length_take]; omega
    have hpk:=hpow.out k hkm
    rw [hlk] at hbd
    have hfin : (k = m ∨ k = l.length ∨ ∃ c,l[k]? = some c ∧ M2.isD b c = false) → M2.digs b m l = l.take k:=M2.digs_of b m l k hk hkm hall.out
    by_cases hp : k < l.length
    · have hdr : l.drop k = l[k] :: l.drop (k + 1):=List.drop_eq_getElem_cons hp
      have hnx:=nextDec (P:=Tryz.prog) wr w.heap.size s k hit (by omega)
      rw [hl,hdr] at hnx
      have htk : l.take (k + 1) = l.take k ++ [l[k]]:=List.take_succ_eq_append_getElem hp
      have hfc:=fun (h : M2.isD b l[k] = false) => hfin (Or.inr (Or.inr ⟨l[k],List.getElem?_eq_getElem hp,h⟩))
      have hfm:=fun (h : k = m) => hfin (Or.inl h)
      have hal : M2.isD b l[k] = true → ∀ c ∈ l.take (k + 1),M2.isD b c = true:=by
        intro h c hc
        rw [htk] at hc
        rcases List.mem_append.1 hc with hc | hc
        · exact hall.out c hc
        · simp at hc; subst hc; exact h
      have hva : M2.val b (l.take (k + 1)) = M2.val b (l.take k) * b + M2.digZ l[k].toNat:=by rw [htk,M2.val_snoc]
      have hlo:=M2.dec_lo l[k] (l.drop (k + 1))
      have hhi:=M2.dec_hi l[k] (l.drop (k + 1))
      have hdp:=M1.dec_pos (l[k]'hp :: l.drop (k + 1)) (List.cons_ne_nil _ _)
      have hdlt:=M1.dec_lt (l[k]'hp :: l.drop (k + 1))
      have hdzb:=M2.digZ_bd l[k].toNat
      generalize l[k] = c at *
      generalize l.drop (k + 1) = t at *
      generalize M1.dec (c :: t) = rw_ at *
      obtain ⟨r,wd⟩:=rw_
      simp only at hnx hhi hdlt hdp
      have hbw1:=Lib.below_iterAt hbw (Nat.le_refl _) s (k + wd)
      have hit1:=Lib.iterAt_heap wr w.heap.size s k (k + wd) hit
      have hsz1:=Lib.iterAt_size wr w.heap.size s (k + wd)
      generalize wr.iterAt w.heap.size s (k + wd) = w1 at *
      have hsz2 : w.heap.size < w1.heap.size:=by
        have:=(Array.getElem?_eq_some_iff.1 hit1).1
        exact this
      clear hfin hdr htk
      replace hfc:=Lib.hid hfc
      replace hfm:=Lib.hid hfm
      replace hal:=Lib.hid hal
      replace hva:=Lib.hid hva
      by_cases hd : M2.isD b c = true
      · have hc128:=M2.isD_ascii hd
        have hrw:=hlo hc128
        simp only [Prod.mk.injEq] at hrw
        obtain ⟨rfl,rfl⟩:=hrw
        have hd2:=of_decide_eq_true (show decide (0 ≤ M2.digZ c.toNat ∧ M2.digZ c.toNat < b) = true from hd)
        obtain ⟨hd3,hd4⟩:=hd2
        have hal2:=Lib.hid (hal.out hd)
        clear hal hfc hlo hhi hd hdlt hdp
        by_cases hkm2 : k = m
        · replace hfm:=Lib.hid (hfm.out hkm2)
          have hne : ((k : Int) == (m : Int)) = true:=by rw [hkm2]; simp
          clear hkm2
          have hge : decide ((b : Int) ≤ M2.digZ c.toNat) = false:=decide_eq_false (by omega)
          clear hva
          go_wp2_with (go_at_call 198; refine (refsDigit _ _).mono ?_; rintro e w2 ⟨rfl,rfl⟩)
          go_ret2
          rw [hfm.out,hlk]
          exact ⟨rfl,hbw1⟩
        · have hne : ((k : Int) == (m : Int)) = false:=by simpa using fun e => hkm2 (by omega)
          have hge : decide ((b : Int) ≤ M2.digZ c.toNat) = false:=decide_eq_false (by omega)
          have hm1 : M2.val b (l.take k) * b ≤ 16777216 * 16:=Int.mul_le_mul (by omega) (by omega) (by omega) (by omega)
          have hm0 : 0 ≤ M2.val b (l.take k) * b:=Int.mul_nonneg hbd.1 (by omega)
          go_wp2_with (go_at_call 198; refine (refsDigit _ _).mono ?_; rintro e w2 ⟨rfl,rfl⟩)
          go_roundw
          case rel => exact ⟨k + 1,by omega,by omega,by rw [hva.out],by go_num,hit1,hbw1,hal2.out⟩
          case measure => rw [iterPos_of hit1,iterPos_of hit]; omega
      · have hdf : M2.isD b c = false:=by simpa using hd
        replace hfc:=Lib.hid (hfc.out hdf)
        have hno : M2.digZ r < 0 ∨ (b : Int) ≤ M2.digZ r:=by
          rcases Nat.lt_or_ge c.toNat 128 with h1 | h1
          · have hrw:=hlo h1
            simp only [Prod.mk.injEq] at hrw
            obtain ⟨rfl,rfl⟩:=hrw
            exact M2.isD_no hdf
          · have h2:=hhi h1
            rw [M2.digZ_big _ (by omega)]
            omega
        have hdz:=M2.digZ_bd r
        clear hal hva hfm hlo hhi hd hdf hdzb hpk
        rcases hno with hno | hno
        · go_wp2_with (go_at_call 198; refine (refsDigit _ _).mono ?_; rintro e w2 ⟨rfl,rfl⟩)
          go_ret2
          rw [hfc.out,hlk]
          exact ⟨rfl,hbw1⟩
        · have h0 : decide (M2.digZ r < 0) = false:=decide_eq_false (by omega)
          go_wp2_with (go_at_call 198; refine (refsDigit _ _).mono ?_; rintro e w2 ⟨rfl,rfl⟩)
          go_ret2
          rw [hfc.out,hlk]
          exact ⟨rfl,hbw1⟩
    · have hnx:=fun ty => Lib.run_next_end_at (P:=Tryz.prog) wr w.heap.size s k ty hit (by omega)
      have hfin:=Lib.hid (hfin (Or.inr (Or.inl (by omega))))
      go_wp2
      go_ret2
      rw [hfin.out,hlk]
      exact ⟨rfl,hbw⟩
def ans (o : Option (Int × Nat)) : Value:=.tuple #[.int .i32 ((o.map (·.1)).getD 0),.int .i64 (((o.map (·.2)).getD 0 : Nat) : Int)]
theorem ans_mk (o : Option (Int × Nat)) : ∃ x y,ans o = .tuple #[.int .i32 x,.int .i64 y]:=⟨_,_,rfl⟩
theorem ans_none : ans none = .tuple #[.int .i32 0,.int .i64 0]:=rfl
theorem ans_some (r : Int) (n : Nat) : ans (some (r,n)) = .tuple #[.int .i32 r,.int .i64 (n : Int)]:=rfl
set_option maxHeartbeats 2000000 in
set_option maxRecDepth 100000 in
theorem refsNumbered (s : ByteArray) (f b m : Nat) (w : World) (hf : f ≤ s.size) (hb0 : 1 ≤ b) (hb : b ≤ 16) (hm : m ≤ 7) (hpow : ∀ k,k ≤ m → ((b : Int)) ^ k ≤ 16777216) (hs : s.size ≤ 1073741824) :
    Calls Tryz.prog 188 #[.string s,.int .i64 (f : Int),.int .i32 (b : Int),.int .i64 (m : Int)] w fun e w' => e = .returned (ans (M2.num f b m s.data.toList)) ∧ Below w.heap.size w w':=by
  have hsz : s.size = s.data.toList.length:=rfl
  have hN:=refsNumber (s.extract f s.size) b m w hb0 hb hm hpow (by rw [ByteArray.size_extract]; omega)
  rw [extract_end] at hN
  have hdl:=M2.digs_len b m (s.data.toList.drop f)
  rw [List.length_drop] at hdl
  have hbd:=M2.val_bd b _ (M2.digs_all b m (s.data.toList.drop f))
  have hpk:=hpow _ hdl.1
  have hnum:=Lib.hid (rfl : M2.num f b m s.data.toList = M2.num f b m s.data.toList)
  replace hnum : Hid (M2.num f b m s.data.toList = if (M2.digs b m (s.data.toList.drop f)).length = 0 ∨ s.data.toList[f + (M2.digs b m (s.data.toList.drop f)).length]? ≠ some 59 then none
    else some (M2.chr (M2.val b (M2.digs b m (s.data.toList.drop f))),f + (M2.digs b m (s.data.toList.drop f)).length + 1)):=rfl
  generalize M2.digs b m (s.data.toList.drop f) = ds at *
  generalize M2.num f b m s.data.toList = R at *
  generalize M2.val b ds = v at *
  generalize ds.length = k at *
  replace hN:=Lib.hid hN
  clear hpow
  by_cases hk : k = 0
  · have hR:=Lib.hid (hnum.out.trans (if_pos (Or.inl hk)))
    clear hnum hsz
    subst hk
    go_enter Tryz.func188,Tryz.ntmps188
    go_wp2_with (go_at_call 195; refine hN.out.mono ?_; rintro e w1 ⟨rfl,hb1⟩)
    go_ret2
    rw [hR.out,ans_none]
    exact ⟨rfl,hb1⟩
  by_cases he : f + k = s.size
  · have hR:=Lib.hid (hnum.out.trans (if_pos (Or.inr (by rw [List.getElem?_eq_none (by omega)]; simp))))
    have hkb : ((k : Int) == 0) = false:=by simpa using hk
    have heb : ((f : Int) + (k : Int) == (s.size : Int)) = true:=by simpa using (by omega : (f : Int) + (k : Int) = (s.size : Int))
    clear hnum hk he hsz
    go_enter Tryz.func188,Tryz.ntmps188
    go_wp2_with (go_at_call 195; refine hN.out.mono ?_; rintro e w1 ⟨rfl,hb1⟩)
    go_ret2
    rw [hR.out,ans_none]
    exact ⟨rfl,hb1⟩
  have hlt : f + k < s.size:=by omega
  have hgt : s.data.toList[f + k]? = some s[f + k]:=by
    rw [List.getElem?_eq_getElem (by omega)]
    rfl
  rw [hgt] at hnum
  have hkb : ((k : Int) == 0) = false:=by simpa using hk
  have heb : ((f : Int) + (k : Int) == (s.size : Int)) = false:=by simpa using (by omega : ¬ (f : Int) + (k : Int) = (s.size : Int))
  by_cases h59 : s[f + k] = 59
  · have hR:=Lib.hid (hnum.out.trans (if_neg (by rw [h59]; simp [hk])))
    clear hnum hk he hgt hsz
    go_enter Tryz.func188,Tryz.ntmps188
    go_wp2_with (go_at_call 195; refine hN.out.mono ?_; rintro e w1 ⟨rfl,hb1⟩)
    go_wp2_with (go_at_call 196; refine (refsCharacter _ _).mono ?_; rintro e w2 ⟨rfl,rfl⟩)
    go_ret2
    rw [hR.out,ans_some]
    exact ⟨rfl,hb1⟩
  · have hR:=Lib.hid (hnum.out.trans (if_pos (Or.inr (by simpa using h59))))
    have hne : ((s[f + k].toNat : Int) != 59) = true:=by
      rw [bne_iff_ne]; intro h; exact h59 (UInt8.toNat_inj.1 (by simpa using (by omega : s[f + k].toNat = 59)))
    clear hnum hk he hgt hsz h59
    go_enter Tryz.func188,Tryz.ntmps188
    go_wp2_with (go_at_call 195; refine hN.out.mono ?_; rintro e w1 ⟨rfl,hb1⟩)
    go_ret2
    rw [hR.out,ans_none]
    exact ⟨rfl,hb1⟩
theorem names_look {w : World} {b : Nat} (h : Names w b) (s : ByteArray) (hs : s.size ≤ 1073741824) :
    (Instr.lookup 173 (.map (some b)) (.string s) true).run Tryz.prog w = .ok (.tuple #[.int .i32 (((M2.nm s.data.toList).getD 0 : Nat) : Int),.bool (M2.nm s.data.toList).isSome]) w:=by
  have:=look_ok_int h lawS Tryz.underlying173 Tryz.underlying21 (zero32 w) (WideMaps.keyOf_string_mk Tryz.underlying9 (s:=s) (by unfold maxLen; omega)) (names_at s.data.toList)
  rw [names_has] at this
  exact this
set_option maxHeartbeats 2000000 in
set_option maxRecDepth 100000 in
theorem refsNamed (s : ByteArray) (b : Nat) (w : World) (hN : Names w b) (h1 : 1 ≤ s.size) (hs : s.size ≤ 1073741824) :
    Calls Tryz.prog 189 #[.string s,.map (some b)] w fun e w' => e = .returned (ans (M2.named s.data.toList)) ∧ w' = w:=by
  have hnear : (s.extract 1 (min (s.size : Int) 8).toNat).data.toList = M2.near s.data.toList:=by
    rw [Lib.extract_data,show (min (s.size : Int) 8).toNat = min s.size 8 by omega]
    unfold M2.near
    have : s.data.toList.length = s.size:=rfl
    rcases Nat.le_total s.size 8 with h | h
    · rw [Nat.min_eq_left h,List.take_of_length_le (by rw [List.length_drop]; omega),List.take_of_length_le (by rw [List.length_drop]; omega)]
    · rw [Nat.min_eq_right h]
  have hnsz : (s.extract 1 (min (s.size : Int) 8).toNat).size ≤ 7:=by rw [ByteArray.size_extract]; omega
  generalize hR : M2.named s.data.toList = R
  unfold M2.named at hR
  rw [← hnear] at hR
  replace hR:=Lib.hid hR
  clear hnear
  go_enter Tryz.func189,Tryz.ntmps189
  go_wp2_with fail
  generalize s.extract 1 (min (s.size : Int) 8).toNat = nr at *
  refine (sIndexByte nr 59 w).mono ?_
  rintro e w' ⟨rfl,rfl⟩
  rw [show (59 : Int).toNat.toUInt8 = 59 from rfl]
  have hge:=Lib.indexByte_ge nr.data.toList 59
  have hat:=fun (o : Nat) (h : Lib.indexByte nr.data.toList 59 = o) => (List.getElem?_eq_some_iff.1 (Lib.indexByte_some h).1).1
  generalize Lib.indexByte nr.data.toList 59 = i at *
  by_cases hi : i < 0
  · have hR2:=Lib.hid (hR.out.symm.trans (if_pos hi))
    clear hR hat
    go_wp2
    go_ret2
    rw [hR2.out,ans_none]
    exact ⟨rfl,rfl⟩
  · obtain ⟨k,rfl⟩ : ∃ k : Nat,i = k:=⟨i.toNat,by omega⟩
    have hk : k < nr.size:=hat k rfl
    have hR2:=hR.out.symm.trans (if_neg hi)
    clear hR hat
    have hl:=names_look hN (nr.extract 0 k) (by rw [ByteArray.size_extract]; omega)
    have hx : (nr.extract 0 k).data.toList = nr.data.toList.take k:=by rw [Lib.extract_data]; simp
    rw [hx] at hl
    rw [Int.toNat_natCast] at hR2
    cases hq : M2.nm (nr.data.toList.take k) with
    | none =>
      rw [hq] at hl hR2
      simp only [Option.getD_none,Option.isSome_none] at hl
      replace hR2:=Lib.hid (show R = none from hR2)
      clear hx hq hi
      go_wp2
      go_ret2
      rw [hR2.out,ans_none]
      exact ⟨rfl,rfl⟩
    | some n =>
      rw [hq] at hl hR2
      simp only [Option.getD_some,Option.isSome_some] at hl
      replace hR2:=Lib.hid (show R = some ((n : Int),1 + k + 1) from hR2)
      clear hx hq hi
      go_wp2
      go_ret2
      rw [hR2.out,ans_some]
      exact ⟨rfl,rfl⟩
theorem hp_of {s : ByteArray} (p : List UInt8) (q : Bool) (h : decide (s.data.toList.take p.length = p) = q) : Lib.hasPrefix s.data.toList p = q:=by
  rw [← h,Bool.eq_iff_iff,decide_eq_true_iff,Lib.hasPrefix,List.isPrefixOf_iff_prefix,List.prefix_iff_eq_take]
  exact eq_comm
set_option maxHeartbeats 2000000 in
set_option maxRecDepth 100000 in
theorem refsOne' (s : ByteArray) (b : Nat) (w : World) (hN : Names w b) (h38 : s.data.toList.head? = some 38) (hs : s.size ≤ 1073741824) :
    Calls Tryz.prog 178 #[.string s,.map (some b)] w fun e w' => e = .returned (ans (M2.one s.data.toList)) ∧ Below w.heap.size w w':=by
  have h1 : 1 ≤ s.size:=by
    have : s.data.toList.length = s.size:=rfl
    cases hl : s.data.toList with
    | nil => rw [hl] at h38; cases h38
    | cons c t => rw [hl] at this; simp at this; omega
  have hone : M2.one s.data.toList = if s.data.toList.take 3 = [38,35,120] ∨ s.data.toList.take 3 = [38,35,88] then M2.num 3 16 6 s.data.toList
      else if s.data.toList.take 2 = [38,35] then M2.num 2 10 7 s.data.toList else M2.named s.data.toList:=by
    unfold M2.one
    rw [if_neg (by simp [h38])]
  have len:=fun (k : Nat) (p : List UInt8) (h : s.data.toList.take k = p) (hp : p.length = k) => (by
    have:=congrArg List.length h
    rw [List.length_take,hp] at this
    have e : s.data.toList.length = s.size:=rfl
    omega : k ≤ s.size)
  have H16 : 3 ≤ s.size → Calls Tryz.prog 188 #[.string s,.int .i64 3,.int .i32 16,.int .i64 6] w fun e w' => e = .returned (ans (M2.num 3 16 6 s.data.toList)) ∧ Below w.heap.size w w':=fun h => refsNumbered s 3 16 6 w h (by omega) (by omega) (by omega) (by decide) hs
  have H10 : 2 ≤ s.size → Calls Tryz.prog 188 #[.string s,.int .i64 2,.int .i32 10,.int .i64 7] w fun e w' => e = .returned (ans (M2.num 2 10 7 s.data.toList)) ∧ Below w.heap.size w w':=fun h => refsNumbered s 2 10 7 w h (by omega) (by omega) (by omega) (by decide) hs
  have HN:=refsNamed s b w hN h1 hs
  have px:=hp_of (s:=s) [38,35,120]
  have pX:=hp_of (s:=s) [38,35,88]
  have p2:=hp_of (s:=s) [38,35]
  simp only [List.length_cons,List.length_nil] at px pX p2
  generalize M2.one s.data.toList = R at *
  clear h38 hN
  obtain ⟨x16,y16,e16⟩:=ans_mk (M2.num 3 16 6 s.data.toList)
  obtain ⟨x10,y10,e10⟩:=ans_mk (M2.num 2 10 7 s.data.toList)
  obtain ⟨xn,yn,en⟩:=ans_mk (M2.named s.data.toList)
  rw [e16] at H16
  rw [e10] at H10
  rw [en] at HN
  by_cases c1 : s.data.toList.take 3 = [38,35,120]
  · have hR:=Lib.hid ((congrArg ans (hone.trans (if_pos (Or.inl c1)))).trans e16)
    have q1:=px true (decide_eq_true c1)
    have H:=Lib.hid (H16 (len 3 _ c1 rfl))
    clear hone len H16 H10 HN px pX p2 c1 e16 e10 en
    go_enter Tryz.func178,Tryz.ntmps178
    go_wp2_with (first | (go_at_call 104; refine (hasPrefix_any _ _ _).mono ?_; rintro e w1 ⟨rfl,rfl⟩) | (go_at_call 188; refine H.out.mono ?_; rintro e w2 ⟨rfl,hb⟩))
    go_ret2
    exact ⟨by rw [hR.out]; rfl,hb⟩
  have q1:=px false (decide_eq_false c1)
  by_cases c2 : s.data.toList.take 3 = [38,35,88]
  · have hR:=Lib.hid ((congrArg ans (hone.trans (if_pos (Or.inr c2)))).trans e16)
    have q2:=pX true (decide_eq_true c2)
    have H:=Lib.hid (H16 (len 3 _ c2 rfl))
    clear hone len H16 H10 HN px pX p2 c1 c2 e16 e10 en
    go_enter Tryz.func178,Tryz.ntmps178
    go_wp2_with (first | (go_at_call 104; refine (hasPrefix_any _ _ _).mono ?_; rintro e w1 ⟨rfl,rfl⟩) | (go_at_call 188; refine H.out.mono ?_; rintro e w2 ⟨rfl,hb⟩))
    go_ret2
    exact ⟨by rw [hR.out]; rfl,hb⟩
  have q2:=pX false (decide_eq_false c2)
  rw [if_neg (by rintro (h | h); exact c1 h; exact c2 h)] at hone
  by_cases c3 : s.data.toList.take 2 = [38,35]
  · have hR:=Lib.hid ((congrArg ans (hone.trans (if_pos c3))).trans e10)
    have q3:=p2 true (decide_eq_true c3)
    have H:=Lib.hid (H10 (len 2 _ c3 rfl))
    clear hone len H16 H10 HN px pX p2 c1 c2 c3 e16 e10 en
    go_enter Tryz.func178,Tryz.ntmps178
    go_wp2_with (first | (go_at_call 104; refine (hasPrefix_any _ _ _).mono ?_; rintro e w1 ⟨rfl,rfl⟩) | (go_at_call 188; refine H.out.mono ?_; rintro e w2 ⟨rfl,hb⟩))
    go_ret2
    exact ⟨by rw [hR.out]; rfl,hb⟩
  · have hR:=Lib.hid ((congrArg ans (hone.trans (if_neg c3))).trans en)
    have q3:=p2 false (decide_eq_false c3)
    have H:=Lib.hid HN
    clear hone len H16 H10 HN px pX p2 c1 c2 c3 e16 e10 en
    go_enter Tryz.func178,Tryz.ntmps178
    go_wp2_with (first | (go_at_call 104; refine (hasPrefix_any _ _ _).mono ?_; rintro e w1 ⟨rfl,rfl⟩) | (go_at_call 189; refine H.out.mono ?_; rintro e w2 ⟨rfl,rfl⟩))
    go_ret2
    exact ⟨by rw [hR.out]; rfl,Below.refl _ _⟩
end Go.Proofs.YteefodibpjgicaaGreat
