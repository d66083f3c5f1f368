/- Texts joined: Math3b, Dom2, Dom3. -/
import Derived.Lib.IndexAny
import Derived.WalkMore
import Derived.Test.YteefodibpjgicaaGreatA2
import Derived.Test.YteefodibpjgicaaGreatA5
import Derived.Test.YteefodibpjgicaaGreatA12
namespace Go.Proofs.YteefodibpjgicaaGreat
namespace M3
abbrev C7 : List UInt8:=[9,10,12,32,47,62,61]
theorem badB_eq (c : UInt8) : badB c = C7.contains c:=by
  have e : ∀ (n : Nat) (h : n < 256),(c.toNat == n) = (c == n.toUInt8):=by
    intro n h
    rw [Bool.eq_iff_iff,beq_iff_eq,beq_iff_eq]
    constructor
    · intro h1; rw [← h1]; simp
    · rintro rfl; exact M1.toNat_u8 n h
  unfold badB
  rw [e 9 (by decide),e 10 (by decide),e 12 (by decide),e 32 (by decide),e 47 (by decide),e 62 (by decide),e 61 (by decide)]
  simp only [C7,List.contains_cons,List.contains_nil,Bool.or_false,Bool.or_assoc]
  rfl
theorem badB_high (c : UInt8) (h : 128 ≤ c.toNat) : badB c = false:=by
  unfold badB
  simp
  omega
theorem high_skip (c : UInt8) (t : List UInt8) (h : 128 ≤ c.toNat) : ∀ x ∈ (c :: t).take (M1.dec (c :: t)).2,128 ≤ x.toNat:=by
  have hd:=M2.dec_hi c t h
  rcases M1.dec_cases (c :: t) (by simp) with ⟨h1,h2,h3⟩ | ⟨h1,_⟩
  · intro x hx
    rw [h2,h3] at hx
    rw [List.take_left'] at hx
    · exact M2.enc_high _ h1 (by omega) x hx
    · rw [← h3,← h2]
  · rw [h1]
    intro x hx
    simp at hx
    subst hx; exact h
theorem any_skip (c : UInt8) (t : List UInt8) (h : 128 ≤ c.toNat) : (c :: t).any badB = ((c :: t).drop (M1.dec (c :: t)).2).any badB:=by
  conv => lhs; rw [← List.take_append_drop (M1.dec (c :: t)).2 (c :: t),List.any_append]
  have : ((c :: t).take (M1.dec (c :: t)).2).any badB = false:=by
    rw [List.any_eq_false]
    intro x hx
    rw [badB_high x (high_skip c t h x hx)]
    simp
  rw [this,Bool.false_or]
theorem indexAny_bad (l : List UInt8) : decide (0 ≤ Lib.indexAny l C7) = l.any badB:=by
  induction l with
  | nil => rfl
  | cons c r ih =>
    have hge:=Lib.indexAny_ge C7 r
    rw [Lib.indexAny,List.any_cons,badB_eq,← ih]
    cases hc : C7.contains c
    · simp only [Bool.false_or,Bool.false_eq_true,if_false,beq_iff_eq]
      split
      · rename_i h; rw [h]
      · congr 1; exact propext (by omega)
    · simp
theorem small_cap (c : UInt8) : (M1.small c == c) = !capB c:=by
  have h:=M1.small_nat c
  by_cases hc : 65 ≤ c.toNat ∧ c.toNat ≤ 90
  · rw [if_pos hc] at h
    have h1 : capB c = true:=decide_eq_true hc
    rw [h1]
    simp only [Bool.not_true,beq_eq_false_iff_ne,ne_eq]
    intro e; rw [e] at h; omega
  · have h1 : capB c = false:=decide_eq_false hc
    rw [h1]
    simp only [Bool.not_false,beq_iff_eq]
    unfold M1.small
    rw [if_neg hc]
theorem fold_same (l : List UInt8) : (M1.fold l == l) = !(l.any capB):=by
  induction l with
  | nil => rfl
  | cons c r ih =>
    show (M1.small c :: M1.fold r == c :: r) = _
    rw [List.cons_beq_cons,ih,small_cap,List.any_cons,Bool.not_or]
end M3
end Go.Proofs.YteefodibpjgicaaGreat

namespace Go.Proofs.YteefodibpjgicaaGreat
open Go.RowKit
abbrev c7 : ByteArray:=⟨#[9,10,12,32,47,62,61]⟩
theorem encode_high (r : Int) (h0 : 128 ≤ r) (h1 : r ≤ 1114111) (hs : r < 55296 ∨ 57343 < r) :
    (∃ a b : UInt8,Utf8.encode r = ⟨#[a,b]⟩ ∧ 128 ≤ b.toNat) ∨ (∃ a b c : UInt8,Utf8.encode r = ⟨#[a,b,c]⟩ ∧ 128 ≤ c.toNat) ∨ (∃ a b c d : UInt8,Utf8.encode r = ⟨#[a,b,c,d]⟩ ∧ 128 ≤ d.toNat):=by
  have hv : Utf8.valid r = true:=by rw [M1.valid_iff]; exact decide_eq_true (by unfold M1.okRune; omega)
  unfold Utf8.encode
  simp only [hv,if_true]
  obtain ⟨n,rfl⟩:=Int.eq_ofNat_of_zero_le (show 0 ≤ r by omega)
  simp only [Int.toNat_natCast]
  rw [if_neg (by omega)]
  split
  · exact Or.inl ⟨_,_,rfl,by rw [M1.toNat_u8 _ (by omega)]; omega⟩
  split
  · exact Or.inr (Or.inl ⟨_,_,_,rfl,by rw [M1.toNat_u8 _ (by omega)]; omega⟩)
  · exact Or.inr (Or.inr ⟨_,_,_,_,rfl,by rw [M1.toNat_u8 _ (by omega)]; omega⟩)
set_option maxHeartbeats 1000000 in
theorem validRune (r : Int) (w : World) (h0 : 128 ≤ r) (h1 : r ≤ 1114111) (hs : r < 55296 ∨ 57343 < r) :
    Calls Tryz.prog 129 #[.int .i32 r] w fun e w' => e = .returned (.bool true) ∧ w' = w:=by
  rcases hs with hs | hs
  · go_enter Tryz.func129,Tryz.ntmps129
    go_wp2
    go_ret
    exact ⟨rfl,rfl⟩
  · have hd : decide (r < 55296) = false:=decide_eq_false (by omega)
    go_enter Tryz.func129,Tryz.ntmps129
    go_wp2
    go_ret
    exact ⟨rfl,rfl⟩
theorem quiet_add_same {P : Program} {f : FuncId} {args : Array Value} {w : World} {a n : Nat} {v : Value}
    (h : Calls P f args (w.drewN (a + n)) fun e w' => e = .returned v ∧ w' = w.drewN (a + n)) :
    Calls P f args (w.drewN (a + n)) fun e w'' => e = .returned v ∧ ∃ m,w'' = w.drewN (a + m) :=
  h.mono fun _ _ ⟨he,hm⟩ => ⟨he,n,hm⟩
theorem below_drewN {B : Nat} {a w : World} (h : Below B a w) (n : Nat) : Below B a (w.drewN n):=⟨h.os,h.tape,h.output,h.size,h.block⟩
theorem sIndexByteHigh (s : ByteArray) (b : UInt8) (w : World) (hb : 128 ≤ b.toNat) (hs : s.data.toList.all (fun x => decide (x.toNat < 128)) = true) :
    Calls Tryz.prog 128 #[.string s,.int .u8 (b.toNat : Int)] w fun e w' => e = .returned (.int .i64 (-1)) ∧ w' = w :=
  (sIndexByte s b.toNat w).mono fun e w' ⟨h1,h2⟩ => ⟨by
    rw [h1]
    simp only [Int.toNat_natCast,Nat.toUInt8_eq,UInt8.ofNat_toNat]
    rw [M2.indexByte_no]
    intro hm
    have:=of_decide_eq_true (List.all_eq_true.1 hs _ hm)
    omega,h2⟩
set_option maxHeartbeats 4000000 in
set_option maxRecDepth 100000 in
theorem indexRune7_two (r : Int) (a b : UInt8) (w : World) (h0 : 128 ≤ r) (h1 : r ≤ 1114111) (hb : (r == 65533) = false) (hs : r < 55296 ∨ 57343 < r) (he : Utf8.encode r = ⟨#[a,b]⟩) (hbb : 128 ≤ b.toNat) :
    Calls Tryz.prog 124 #[.string c7,.int .i32 r] w fun e w' => e = .returned (.int .i64 (-1)) ∧ Below w.heap.size w w':=by
  have hd : decide (r < 128) = false:=decide_eq_false (by omega)
  have hv:=Lib.hid (fun w => validRune r w h0 h1 hs)
  clear hs
  go_enter Tryz.func124,Tryz.ntmps124
  go_wp2_with (go_at_call 129; refine (hv.out _).mono ?_; rintro e w1 ⟨rfl,rfl⟩)
  go_step3
  go_wp2_with (go_at_call 129; refine (hv.out _).mono ?_; rintro e w1 ⟨rfl,rfl⟩)
  go_loop [9] (fun i => i = .int .i64 1) (fun _ => 0)
  case atStart => rfl
  case round =>
    obtain rfl:=hrel
    have hq : (((c7[1]'(by decide)).toNat : Int) != (((⟨#[a,b]⟩ : ByteArray)[1]'(by show 1 < 2; decide)).toNat : Int)) = true:=by
      show ((10 : Int) != (b.toNat : Int)) = true
      simp; omega
    go_wp2
    go_step3
    go_wp2
    go_quiet (fail)
    go_wp2
    go_quiet ((go_at_call 128; exact quiet_add_same (sIndexByteHigh _ _ _ hbb (by decide))))
    go_wp2
    rw [Exit.noGoto_ret]
    go_wp2
    rw [Exit.noGoto_ret]
    go_wp2
    go_ret
    exact ⟨rfl,⟨rfl,rfl,rfl,Nat.le_refl _,fun _ _ => rfl⟩⟩
set_option maxHeartbeats 4000000 in
set_option maxRecDepth 100000 in
theorem indexRune7_three (r : Int) (a b c : UInt8) (w : World) (h0 : 128 ≤ r) (h1 : r ≤ 1114111) (hb : (r == 65533) = false) (hs : r < 55296 ∨ 57343 < r) (he : Utf8.encode r = ⟨#[a,b,c]⟩) (hbb : 128 ≤ c.toNat) :
    Calls Tryz.prog 124 #[.string c7,.int .i32 r] w fun e w' => e = .returned (.int .i64 (-1)) ∧ Below w.heap.size w w':=by
  have hd : decide (r < 128) = false:=decide_eq_false (by omega)
  have hv:=Lib.hid (fun w => validRune r w h0 h1 hs)
  clear hs
  go_enter Tryz.func124,Tryz.ntmps124
  go_wp2_with (go_at_call 129; refine (hv.out _).mono ?_; rintro e w1 ⟨rfl,rfl⟩)
  go_step3
  go_wp2_with (go_at_call 129; refine (hv.out _).mono ?_; rintro e w1 ⟨rfl,rfl⟩)
  go_loop [9] (fun i => i = .int .i64 2) (fun _ => 0)
  case atStart => rfl
  case round =>
    obtain rfl:=hrel
    have hq : (((c7[2]'(by decide)).toNat : Int) != (((⟨#[a,b,c]⟩ : ByteArray)[2]'(by show 2 < 3; decide)).toNat : Int)) = true:=by
      show ((12 : Int) != (c.toNat : Int)) = true
      simp; omega
    go_wp2
    go_step3
    go_wp2
    go_quiet (fail)
    go_wp2
    go_quiet ((go_at_call 128; exact quiet_add_same (sIndexByteHigh _ _ _ hbb (by decide))))
    go_wp2
    rw [Exit.noGoto_ret]
    go_wp2
    rw [Exit.noGoto_ret]
    go_wp2
    go_ret
    exact ⟨rfl,⟨rfl,rfl,rfl,Nat.le_refl _,fun _ _ => rfl⟩⟩
set_option maxHeartbeats 4000000 in
set_option maxRecDepth 100000 in
theorem indexRune7_four (r : Int) (a b c d : UInt8) (w : World) (h0 : 128 ≤ r) (h1 : r ≤ 1114111) (hb : (r == 65533) = false) (hs : r < 55296 ∨ 57343 < r) (he : Utf8.encode r = ⟨#[a,b,c,d]⟩) (hbb : 128 ≤ d.toNat) :
    Calls Tryz.prog 124 #[.string c7,.int .i32 r] w fun e w' => e = .returned (.int .i64 (-1)) ∧ Below w.heap.size w w':=by
  have hd : decide (r < 128) = false:=decide_eq_false (by omega)
  have hv:=Lib.hid (fun w => validRune r w h0 h1 hs)
  clear hs
  go_enter Tryz.func124,Tryz.ntmps124
  go_wp2_with (go_at_call 129; refine (hv.out _).mono ?_; rintro e w1 ⟨rfl,rfl⟩)
  go_step3
  go_wp2_with (go_at_call 129; refine (hv.out _).mono ?_; rintro e w1 ⟨rfl,rfl⟩)
  go_loop [9] (fun i => i = .int .i64 3) (fun _ => 0)
  case atStart => rfl
  case round =>
    obtain rfl:=hrel
    have hq : (((c7[3]'(by decide)).toNat : Int) != (((⟨#[a,b,c,d]⟩ : ByteArray)[3]'(by show 3 < 4; decide)).toNat : Int)) = true:=by
      show ((32 : Int) != (d.toNat : Int)) = true
      simp; omega
    go_wp2
    go_step3
    go_wp2
    go_quiet (fail)
    go_wp2
    go_quiet ((go_at_call 128; exact quiet_add_same (sIndexByteHigh _ _ _ hbb (by decide))))
    go_wp2
    rw [Exit.noGoto_ret]
    go_wp2
    rw [Exit.noGoto_ret]
    go_wp2
    go_ret
    exact ⟨rfl,⟨rfl,rfl,rfl,Nat.le_refl _,fun _ _ => rfl⟩⟩
set_option maxHeartbeats 4000000 in
set_option maxRecDepth 100000 in
theorem indexRune7_bad (w : World) :
    Calls Tryz.prog 124 #[.string c7,.int .i32 65533] w fun e w' => e = .returned (.int .i64 (-1)) ∧ Below w.heap.size w w':=by
  go_enter Tryz.func124,Tryz.ntmps124
  go_wp2
  go_loopw [] (fun wr => ∃ p : Nat,p ≤ 7 ∧ wr.heap[w.heap.size]? = some (.stringIter c7 p) ∧ Below w.heap.size w wr) (fun wr => 7 - wr.iterPos w.heap.size)
  case atStart => exact ⟨0,by omega,World.iter_heap w c7 0,(Below.refl _ w).alloc (Nat.le_refl _) _⟩
  case round =>
    obtain ⟨p,hpl,hit,hbw⟩:=hrel
    have hsz : w.heap.size < wr.heap.size:=(Array.getElem?_eq_some_iff.1 hit).1
    by_cases hp : p < 7
    · have hnx:=next_dec (P:=Tryz.prog) wr w.heap.size c7 p hit hp
      have hd : ∃ x : Nat,M1.dec (c7.data.toList.drop p) = (x,1) ∧ x < 128:=by
        have : p = 0 ∨ p = 1 ∨ p = 2 ∨ p = 3 ∨ p = 4 ∨ p = 5 ∨ p = 6:=by omega
        rcases this with rfl | rfl | rfl | rfl | rfl | rfl | rfl <;> exact ⟨_,M2.dec_lo _ _ (by decide),by decide⟩
      obtain ⟨x,hx,hx2⟩:=hd
      rw [hx] at hnx
      have hbw1:=Lib.below_iterAt hbw (Nat.le_refl _) c7 (p + 1)
      have hit1:=Lib.iterAt_heap wr w.heap.size c7 p (p + 1) hit
      simp only at hnx
      generalize wr.iterAt w.heap.size c7 (p + 1) = w1 at *
      have hne : ((x : Int) == 65533) = false:=by simp; omega
      clear hx
      go_wp2
      go_roundw
      case rel => exact ⟨p + 1,by omega,hit1,hbw1⟩
      case measure => rw [iterPos_of hit1,iterPos_of hit]; omega
    · have hnx:=fun ty => Lib.run_next_end_at (P:=Tryz.prog) wr w.heap.size c7 p ty hit (by show ¬ p < 7; omega)
      go_wp2
      try rw [Exit.noGoto_ret]
      go_wp2
      go_ret
      exact ⟨rfl,hbw⟩
theorem indexRune7 (r : Int) (w : World) (h0 : 0 ≤ r) (hs : r < 55296 ∨ 57343 < r) (h1 : r ≤ 1114111) :
    Calls Tryz.prog 124 #[.string c7,.int .i32 r] w fun e w' => ∃ z : Int,e = .returned (.int .i64 z) ∧ decide (0 ≤ z) = (decide (r < 128) && M3.badB r.toNat.toUInt8) ∧ Below w.heap.size w w':=by
  by_cases h128 : r < 128
  · refine (Tryz.strings_IndexRune_ascii c7 r w h0 h128).mono fun e w' ⟨h2,h3⟩ => ⟨_,h2,?_,by rw [h3]; exact Below.refl _ _⟩
    rw [M3.badB_eq,Lib.contains_iff_indexByte,decide_eq_true h128,Bool.true_and]
  · have hd : (decide (r < 128) && M3.badB r.toNat.toUInt8) = false:=by rw [decide_eq_false h128]; rfl
    rw [hd]
    by_cases hb : r = 65533
    · subst hb
      exact (indexRune7_bad w).mono fun e w' ⟨h2,h3⟩ => ⟨_,h2,rfl,h3⟩
    · have hbb : (r == 65533) = false:=by simpa using hb
      rcases encode_high r (by omega) h1 hs with ⟨a,b,he,h⟩ | ⟨a,b,c,he,h⟩ | ⟨a,b,c,d,he,h⟩
      · exact (indexRune7_two r a b w (by omega) h1 hbb hs he h).mono fun e w' ⟨h2,h3⟩ => ⟨_,h2,rfl,h3⟩
      · exact (indexRune7_three r a b c w (by omega) h1 hbb hs he h).mono fun e w' ⟨h2,h3⟩ => ⟨_,h2,rfl,h3⟩
      · exact (indexRune7_four r a b c d w (by omega) h1 hbb hs he h).mono fun e w' ⟨h2,h3⟩ => ⟨_,h2,rfl,h3⟩
end Go.Proofs.YteefodibpjgicaaGreat

namespace Go.Proofs.YteefodibpjgicaaGreat
open Go.RowKit
def AnyPost (l : List UInt8) (w : World) (e : Ending) (w' : World) : Prop:=∃ z : Int,e = .returned (.int .i64 z) ∧ decide (0 ≤ z) = l.any M3.badB ∧ Below w.heap.size w w'
theorem zero86 : ∀ w,(zeroValue 137).run Tryz.prog w = .ok (.agg (Array.replicate 256 (.bool false))) w:=by
  intro w; kernel_rfl
set_option maxHeartbeats 1000000 in
theorem useASCII (n : Nat) (w : World) (h : n ≤ 8) : Calls Tryz.prog 125 #[.int .i64 (n : Int)] w fun e w' => e = .returned (.bool false) ∧ w = w':=by
  have hd : decide (8 < (n : Int)) = false:=decide_eq_false (by omega)
  go_enter Tryz.func125,Tryz.ntmps125
  go_wp2
  go_ret
  exact ⟨rfl,rfl⟩
set_option maxHeartbeats 2000000 in
set_option maxRecDepth 100000 in
theorem indexAny7_short (s : ByteArray) (w : World) (hs : s.size ≤ 8) :
    Calls Tryz.prog 121 #[.string s,.string c7] w (AnyPost s.data.toList w):=by
  have hsz : s.size = s.data.toList.length:=rfl
  generalize hl : s.data.toList = l at *
  go_enter Tryz.func121,Tryz.ntmps121
  go_wp2_with (go_at_call 125; refine (useASCII _ _ (by omega)).mono ?_; rintro e w1 ⟨rfl,rfl⟩)
  go_loopw [] (fun wr => ∃ p : Nat,p ≤ l.length ∧ wr.heap[w.heap.size]? = some (.stringIter s p) ∧ Below w.heap.size w wr ∧ Hid (l.any M3.badB = (l.drop p).any M3.badB)) (fun wr => l.length - wr.iterPos w.heap.size)
  case atStart => exact ⟨0,by omega,World.iter_heap w s 0,(Below.refl _ w).alloc (Nat.le_refl _) _,rfl⟩
  case round =>
    obtain ⟨p,hpl,hit,hbw,hB⟩:=hrel
    have hsz0 : w.heap.size < wr.heap.size:=(Array.getElem?_eq_some_iff.1 hit).1
    by_cases hp : p < l.length
    · have hdr : l.drop p = l[p] :: l.drop (p + 1):=List.drop_eq_getElem_cons hp
      have hnx:=next_dec (P:=Tryz.prog) wr w.heap.size s p hit (by omega)
      have hle:=M1.dec_le (l.drop p) (drop_ne hp)
      have hpos:=M1.dec_pos (l.drop p) (drop_ne hp)
      rw [List.length_drop] at hle
      have hok:=M1.runes_ok _ (l.drop p) (Nat.le_refl _) _ (by rw [M1.runes_step _ (drop_ne hp)]; exact List.mem_cons_self)
      unfold M1.okRune at hok
      have hskip:=M3.any_skip l[p] (l.drop (p + 1))
      have hlo:=M2.dec_lo l[p] (l.drop (p + 1))
      have hhi:=M2.dec_hi l[p] (l.drop (p + 1))
      have hst : (l.drop p).any M3.badB = (M3.badB l[p] || (l.drop (p + 1)).any M3.badB):=by rw [hdr]; rfl
      rw [← hdr] at hskip hlo hhi
      rw [hl] at hnx
      generalize l[p] = c at *
      have hd2:=fun n => List.drop_drop (i:=n) (j:=p) (l:=l)
      replace hd2:=Lib.hid hd2
      generalize M1.dec (l.drop p) = rw_ at *
      obtain ⟨r,wd⟩:=rw_
      simp only at hnx hhi hle hpos hok hskip
      have hbw1:=Lib.below_iterAt hbw (Nat.le_refl _) s (p + wd)
      have hit1:=Lib.iterAt_heap wr w.heap.size s p (p + wd) hit
      generalize wr.iterAt w.heap.size s (p + wd) = w1 at *
      have hsz1 : w.heap.size < w1.heap.size:=(Array.getElem?_eq_some_iff.1 hit1).1
      clear hdr hl
      replace hst:=Lib.hid (hB.out.trans hst)
      have hir:=Lib.hid (fun W => indexRune7 (r : Int) W (by omega) (by omega) (by omega))
      rcases Nat.lt_or_ge c.toNat 128 with h1 | h1
      · have hrw:=hlo h1
        simp only [Prod.mk.injEq] at hrw
        obtain ⟨rfl,rfl⟩:=hrw
        have hcc : (decide ((c.toNat : Int) < 128) && M3.badB (c.toNat : Int).toNat.toUInt8) = M3.badB c:=by
          rw [decide_eq_true (by omega),Bool.true_and]; simp
        replace hcc:=Lib.hid hcc
        clear hlo hhi hskip
        cases hbad : M3.badB c
        · rw [hbad,Bool.false_or] at hst
          rw [hbad] at hcc
          go_wp2_with fail
          refine (hir.out _).mono ?_
          rintro e w2 ⟨z,rfl,hz,hb2⟩
          rw [hcc.out] at hz
          have hz2 : z < 0:=by have:=of_decide_eq_false hz; omega
          clear hz
          have hit2:=(hb2.block w.heap.size hsz1).trans hit1
          have hbw2:=hbw1.trans (hb2.mono (by omega))
          go_wp2
          go_roundw
          case rel => exact ⟨p + 1,by omega,hit2,hbw2,hst⟩
          case measure => rw [iterPos_of hit2,iterPos_of hit]; omega
        · rw [hbad,Bool.true_or] at hst
          rw [hbad] at hcc
          go_wp2_with fail
          refine (hir.out _).mono ?_
          rintro e w2 ⟨z,rfl,hz,hb2⟩
          rw [hcc.out] at hz
          have hz2 : 0 ≤ z:=of_decide_eq_true hz
          clear hz
          have hbw2:=hbw1.trans (hb2.mono (by omega))
          go_wp2
          go_ret
          exact ⟨_,rfl,by rw [hst.out]; exact decide_eq_true (by omega),hbw2⟩
      · replace hhi:=hhi h1
        replace hskip:=Lib.hid ((hB.out.trans (hskip h1)).trans (by rw [hd2.out]))
        clear hlo hst hB
        go_wp2_with fail
        refine (hir.out _).mono ?_
        rintro e w2 ⟨z,rfl,hz,hb2⟩
        rw [decide_eq_false (by omega : ¬ (r : Int) < 128),Bool.false_and] at hz
        have hz2 : z < 0:=by have:=of_decide_eq_false hz; omega
        clear hz
        have hit2:=(hb2.block w.heap.size hsz1).trans hit1
        have hbw2:=hbw1.trans (hb2.mono (by omega))
        go_wp2
        go_roundw
        case rel => exact ⟨p + wd,by omega,hit2,hbw2,hskip⟩
        case measure => rw [iterPos_of hit2,iterPos_of hit]; omega
    · have hnx:=fun ty => Lib.run_next_end_at (P:=Tryz.prog) wr w.heap.size s p ty hit (by omega)
      go_wp2
      go_ret
      exact ⟨_,rfl,by rw [hB.out,List.drop_of_length_le (by omega)]; rfl,hbw⟩
theorem indexAny7 (s : ByteArray) (w : World) (hs : s.size < 4294967281) :
    Calls Tryz.prog 121 #[.string s,.string c7] w (AnyPost s.data.toList w):=by
  by_cases h : s.size ≤ 8
  · exact indexAny7_short s w h
  · exact (Tryz.strings_IndexAny_long zero86 s c7 w (by decide) (by omega) hs (by decide) (by intro j b hb; match j,hb with | 0,hb | 1,hb | 2,hb | 3,hb | 4,hb | 5,hb | 6,hb => cases hb; decide)).mono fun e w' ⟨h1,h2⟩ =>
      ⟨_,h1,M3.indexAny_bad _,by rw [h2]; exact ((Below.refl _ w).alloc (Nat.le_refl _) _).alloc (by simp) _⟩
set_option maxHeartbeats 1000000 in
theorem containsAny7 (s : ByteArray) (w : World) (hs : s.size < 4294967281) :
    Calls Tryz.prog 112 #[.string s,.string c7] w fun e w' => e = .returned (.bool (s.data.toList.any M3.badB)) ∧ Below w.heap.size w w':=by
  have h:=Lib.hid (fun W => indexAny7 s W hs)
  go_enter Tryz.func112,Tryz.ntmps112
  go_wp2_with fail
  refine (h.out _).mono ?_
  rintro e w1 ⟨z,rfl,hz,hb⟩
  replace hz:=Lib.hid hz
  go_wp2
  go_ret
  exact ⟨by rw [← hz.out]; rfl,hb⟩
set_option maxHeartbeats 2000000 in
set_option maxRecDepth 100000 in
theorem domAttributed (s : ByteArray) (w : World) (hs : s.size ≤ 268435456) :
    Calls Tryz.prog 103 #[.string s] w fun e w' => e = .returned (.bool (M3.attributedB s.data.toList)) ∧ Below w.heap.size w w':=by
  have hS:=Lib.hid hs
  have hI:=Lib.hid (fun W => utfIs s W (by omega))
  have hF:=Lib.hid (fun W => utfFold s W (by omega))
  have hC:=Lib.hid (fun W => containsAny7 s W (by omega))
  have hf : ((⟨(M1.fold s.data.toList).toArray⟩ : ByteArray).toList == s.toList) = !(s.data.toList.any M3.capB):=by
    rw [← M3.fold_same,Lib.toList_data,Lib.toList_data]
  have hr : Hid (M3.attributedB s.data.toList = (!s.toList.isEmpty && (M1.isB s.data.toList && !(s.data.toList.any M3.capB) && !(s.data.toList.any M3.badB)))):=by
    show _ = _
    rw [Lib.toList_data]; rfl
  generalize (⟨(M1.fold s.data.toList).toArray⟩ : ByteArray) = F at *
  generalize M1.isB s.data.toList = b1 at *
  generalize s.data.toList.any M3.capB = b2 at *
  generalize s.data.toList.any M3.badB = b3 at *
  clear hs
  by_cases he : s.toList = []
  · have he2 : s.toList.isEmpty = true:=by rw [he]; rfl
    have hr2 : Hid (M3.attributedB s.data.toList = false):=by
      show _ = _
      rw [hr.out,he2]; rfl
    clear hr hf
    go_enter Tryz.func103,Tryz.ntmps103
    go_wp2
    go_ret
    exact ⟨by rw [hr2.out]; rfl,Below.refl _ _⟩
  have he2 : s.toList.isEmpty = false:=by cases h : s.toList with | nil => exact absurd h he | cons _ _ => rfl
  rw [he2] at hr
  cases b1
  · go_enter Tryz.func103,Tryz.ntmps103
    go_wp2_with fail
    refine (hI.out _).mono ?_
    rintro e w1 ⟨rfl,hb1⟩
    go_wp2
    go_ret
    exact ⟨by rw [hr.out]; rfl,hb1⟩
  cases b2
  · go_enter Tryz.func103,Tryz.ntmps103
    go_wp2_with fail
    refine (hI.out _).mono ?_
    rintro e w1 ⟨rfl,hb1⟩
    go_wp2_with fail
    refine (hF.out _).mono ?_
    rintro e w2 ⟨rfl,hb2⟩
    go_wp2_with fail
    refine (hC.out _).mono ?_
    rintro e w3 ⟨rfl,hb3⟩
    go_wp2
    go_ret
    exact ⟨by rw [hr.out]; cases b3 <;> rfl,bt (bt hb1 hb2) hb3⟩
  · go_enter Tryz.func103,Tryz.ntmps103
    go_wp2_with fail
    refine (hI.out _).mono ?_
    rintro e w1 ⟨rfl,hb1⟩
    go_wp2_with fail
    refine (hF.out _).mono ?_
    rintro e w2 ⟨rfl,hb2⟩
    go_wp2
    go_ret
    exact ⟨by rw [hr.out]; rfl,bt hb1 hb2⟩
def restB (l : List UInt8) : Bool:=!(l.any M3.capB) && !(l.any M3.badB)
theorem restB_drop (s : ByteArray) (i : Nat) (h : i < s.size) : restB (s.data.toList.drop i) = (!(M3.capB s[i]) && !(M3.badB s[i]) && restB (s.data.toList.drop (i + 1))):=by
  have hsz : s.size = s.data.toList.length:=rfl
  unfold restB
  rw [List.drop_eq_getElem_cons (show i < s.data.toList.length by omega),List.any_cons,List.any_cons]
  show (!(M3.capB s[i] || _) && !(M3.badB s[i] || _)) = _
  cases M3.capB s[i] <;> cases M3.badB s[i] <;> simp
set_option maxHeartbeats 4000000 in
set_option maxRecDepth 100000 in
theorem ref03Attributed (s : ByteArray) (w : World) (hs : s.size ≤ 268435456) :
    Calls Tryz.prog 72 #[.string s] w fun e w' => e = .returned (.bool (M3.attributedB s.data.toList)) ∧ Below w.heap.size w w':=by
  have hsz : Hid (s.size = s.data.toList.length):=rfl
  have hr : Hid (M3.attributedB s.data.toList = (!s.data.toList.isEmpty && (M1.isB s.data.toList && restB s.data.toList))):=by
    show _ = _
    unfold M3.attributedB restB
    rw [Bool.and_assoc]
  have hI:=ref01Is s w hs
  generalize M1.isB s.data.toList = b1 at *
  go_enter Tryz.func72,Tryz.ntmps72
  go_wp2_with fail
  refine hI.mono ?_
  rintro e w1 ⟨rfl,hb1⟩
  go_wp2
  go_loopw [4] (fun u4 wr => ∃ i : Nat,i ≤ s.size ∧ u4 = .int .i64 (i : Int) ∧ w1 = wr ∧ Hid (restB s.data.toList = restB (s.data.toList.drop i))) (fun u4 _ => s.size - (intOf u4).toNat)
  case atStart => exact ⟨0,by omega,rfl,rfl,rfl⟩
  case round =>
    obtain ⟨i,hi,rfl,rfl,hB⟩:=hrel
    by_cases hlt : i < s.size
    · have hst:=Lib.hid (hB.out.trans (restB_drop s i hlt))
      clear hB
      have hcap : Hid (M3.capB s[i] = decide (65 ≤ s[i].toNat ∧ s[i].toNat ≤ 90)):=rfl
      have hbad : Hid (M3.badB s[i] = (s[i].toNat == 9 || s[i].toNat == 10 || s[i].toNat == 12 || s[i].toNat == 32 || s[i].toNat == 47 || s[i].toNat == 62 || s[i].toNat == 61)):=rfl
      have hc:=s[i].toNat_lt
      generalize hn : s[i].toNat = n at *
      generalize M3.capB s[i] = p at *
      generalize M3.badB s[i] = q at *
      have hno : (p || q) = true → Hid (M3.attributedB s.data.toList = false):=by
        intro h
        show _ = _
        rw [hr.out,hst.out]
        cases p <;> cases q <;> simp_all
      by_cases h1 : 65 ≤ n ∧ n ≤ 90
      · replace hno:=hno (by rw [hcap.out,decide_eq_true h1]; rfl)
        clear hcap hbad hst
        obtain ⟨h1,h2⟩:=h1
        go_wp2
        go_ret
        exact ⟨by rw [hno.out]; rfl,hb1⟩
      by_cases h2 : n = 9 ∨ n = 10 ∨ n = 12 ∨ n = 32 ∨ n = 47 ∨ n = 62 ∨ n = 61
      · replace hno:=hno (by rw [hbad.out]; simp; omega)
        clear hcap hbad hst h1
        rcases h2 with rfl | rfl | rfl | rfl | rfl | rfl | rfl <;> (go_wp2; go_ret; exact ⟨by rw [hno.out]; rfl,hb1⟩)
      · have hp : p = false:=by rw [hcap.out]; exact decide_eq_false h1
        have hq : q = false:=by rw [hbad.out]; simp; omega
        clear hno hcap hbad
        subst hp
        subst hq
        have e1 : ((n : Int) == 9) = false:=by simp; omega
        have e2 : ((n : Int) == 10) = false:=by simp; omega
        have e3 : ((n : Int) == 12) = false:=by simp; omega
        have e4 : ((n : Int) == 32) = false:=by simp; omega
        have e5 : ((n : Int) == 47) = false:=by simp; omega
        have e6 : ((n : Int) == 62) = false:=by simp; omega
        have e7 : ((n : Int) == 61) = false:=by simp; omega
        clear h2
        by_cases h3 : 65 ≤ n
        · have hd : decide ((n : Int) ≤ 90) = false:=decide_eq_false (by omega)
          go_wp2
          go_roundw
          case rel => exact ⟨i + 1,by omega,by go_num,by trivial,by rw [hst.out]; rfl⟩
          case measure => simp [intOf]; omega
        · go_wp2
          go_roundw
          case rel => exact ⟨i + 1,by omega,by go_num,by trivial,by rw [hst.out]; rfl⟩
          case measure => simp [intOf]; omega
    · have h0 : restB (s.data.toList.drop i) = true:=by rw [List.drop_of_length_le (by have:=hsz.out; omega)]; rfl
      replace hr:=Lib.hid ((hr.out).trans (by rw [hB.out,h0]))
      clear h0 hB
      cases b1
      · go_wp2
        go_ret
        exact ⟨by rw [hr.out]; simp,hb1⟩
      · by_cases h0 : 0 < s.size
        · go_wp2
          go_ret
          refine ⟨?_,hb1⟩
          rw [hr.out]
          have : s.data.toList.isEmpty = false:=by rw [← Bool.not_eq_true,List.isEmpty_iff]; intro h; have:=hsz.out; rw [h,List.length_nil] at this; omega
          rw [this]; simp
        · have h00 : s.size = 0:=by omega
          have : s.data.toList.isEmpty = true:=by rw [List.isEmpty_iff]; exact List.eq_nil_of_length_eq_zero (by rw [← hsz.out]; exact h00)
          rw [this] at hr
          clear this h00
          go_wp2
          go_ret
          exact ⟨by rw [hr.out]; rfl,hb1⟩
set_option maxHeartbeats 4000000 in
set_option maxRecDepth 100000 in
theorem ref03Named (s : ByteArray) (w : World) (hs : s.size ≤ 9223372036854775807) :
    Calls Tryz.prog 71 #[.string s] w fun e w' => e = .returned (.bool (M3.namedB s.data.toList)) ∧ w = w':=by
  have hsz : Hid (s.size = s.data.toList.length):=rfl
  by_cases h0 : s.size = 0
  · have : s.data.toList = []:=List.eq_nil_of_length_eq_zero (by rw [← hsz.out]; exact h0)
    have hr : Hid (M3.namedB s.data.toList = false):=by show _ = _; rw [this]; rfl
    clear this
    go_enter Tryz.func71,Tryz.ntmps71
    go_wp2
    go_ret
    exact ⟨by rw [hr.out]; rfl,rfl⟩
  have hz : ((s.size : Int) == 0) = false:=by simpa using h0
  have hpos : 0 < s.size:=by omega
  have hr : Hid (M3.namedB s.data.toList = (M3.smallB s[0] && (s.data.toList.drop 0).all M3.nameB)):=by
    show _ = _
    have hl:=hsz.out
    obtain ⟨c,r,hd⟩:=List.exists_cons_of_ne_nil (show s.data.toList ≠ [] by intro h; rw [h,List.length_nil] at hl; omega)
    have h1 : s[0] = c:=by
      show s.data.toList[0]'(by omega) = c
      simp [hd]
    rw [h1,List.drop_zero,hd]
    show (M3.smallB c && r.all M3.nameB) = (M3.smallB c && (M3.nameB c && r.all M3.nameB))
    unfold M3.nameB
    cases M3.smallB c <;> simp
  have hs0:=Lib.hid (fun W => ref03Small s[0] W)
  generalize M3.smallB s[0] = f at *
  go_enter Tryz.func71,Tryz.ntmps71
  go_wp2_with fail
  refine (hs0.out _).mono ?_
  rintro e w1 ⟨rfl,hw⟩
  rw [hw]
  clear hw w1
  go_wp2
  go_loopw [4] (fun u4 wr => ∃ i : Nat,i ≤ s.size ∧ u4 = .int .i64 (i : Int) ∧ w = wr ∧ Hid (M3.namedB s.data.toList = (f && (s.data.toList.drop i).all M3.nameB))) (fun u4 _ => s.size - (intOf u4).toNat)
  case atStart => exact ⟨0,by omega,rfl,rfl,hr.out⟩
  case round =>
    obtain ⟨i,hi,rfl,rfl,hB⟩:=hrel
    by_cases hlt : i < s.size
    · have hst : (s.data.toList.drop i).all M3.nameB = (M3.nameB s[i] && (s.data.toList.drop (i + 1)).all M3.nameB):=by
        rw [List.drop_eq_getElem_cons (show i < s.data.toList.length by have:=hsz.out; omega),List.all_cons]; rfl
      replace hst:=Lib.hid (hB.out.trans (by rw [hst]))
      have hsi:=Lib.hid (fun W => ref03Small s[i] W)
      have hnm : Hid (M3.nameB s[i] = (M3.smallB s[i] || decide (s[i].toNat = 45 ∨ (48 ≤ s[i].toNat ∧ s[i].toNat ≤ 57)))):=rfl
      clear hB hr
      generalize M3.smallB s[i] = p at *
      generalize M3.nameB s[i] = q at *
      have hc:=s[i].toNat_lt
      cases p
      · by_cases h1 : s[i].toNat = 45 ∨ (48 ≤ s[i].toNat ∧ s[i].toNat ≤ 57)
        · have hq : q = true:=by rw [hnm.out,decide_eq_true h1]; rfl
          subst hq
          clear hnm
          rcases h1 with h1 | ⟨h1,h2⟩
          · have e1 : ((s[i].toNat : Int) != 45) = false:=by rw [h1]; rfl
            have e2 : decide ((s[i].toNat : Int) < 48) = true:=decide_eq_true (by omega)
            clear h1
            go_wp2_with fail
            refine (hsi.out _).mono ?_
            rintro e w1 ⟨rfl,hw⟩
            rw [hw]
            clear hw w1
            go_wp2
            go_roundw
            case rel => exact ⟨i + 1,by omega,by go_num,by trivial,by show _ = _; rw [hst.out]; simp⟩
            case measure => simp [intOf]; omega
          · go_wp2_with fail
            refine (hsi.out _).mono ?_
            rintro e w1 ⟨rfl,hw⟩
            rw [hw]
            clear hw w1
            go_wp2
            go_roundw
            case rel => exact ⟨i + 1,by omega,by go_num,by trivial,by show _ = _; rw [hst.out]; simp⟩
            case measure => simp [intOf]; omega
        · have hq : q = false:=by rw [hnm.out,decide_eq_false h1]; rfl
          subst hq
          clear hnm
          have e1 : ((s[i].toNat : Int) != 45) = true:=by simp; omega
          have hno : Hid (M3.namedB s.data.toList = false):=by show _ = _; rw [hst.out]; simp
          clear hst
          by_cases h2 : s[i].toNat < 48
          · go_wp2_with fail
            refine (hsi.out _).mono ?_
            rintro e w1 ⟨rfl,hw⟩
            rw [hw]
            clear hw w1
            go_wp2
            go_ret
            exact ⟨by rw [hno.out]; rfl,by trivial⟩
          · have e2 : decide ((s[i].toNat : Int) < 48) = false:=decide_eq_false (by omega)
            have e3 : decide (57 < (s[i].toNat : Int)) = true:=decide_eq_true (by omega)
            clear h1
            go_wp2_with fail
            refine (hsi.out _).mono ?_
            rintro e w1 ⟨rfl,hw⟩
            rw [hw]
            clear hw w1
            go_wp2
            go_ret
            exact ⟨by rw [hno.out]; rfl,by trivial⟩
      · have hq : q = true:=by rw [hnm.out]; rfl
        subst hq
        clear hnm
        go_wp2_with fail
        refine (hsi.out _).mono ?_
        rintro e w1 ⟨rfl,hw⟩
        rw [hw]
        clear hw w1
        go_wp2
        go_roundw
        case rel => exact ⟨i + 1,by omega,by go_num,by trivial,by show _ = _; rw [hst.out]; simp⟩
        case measure => simp [intOf]; omega
    · have h0 : (s.data.toList.drop i).all M3.nameB = true:=by rw [List.drop_of_length_le (by have:=hsz.out; omega)]; rfl
      have hB2:=Lib.hid (hB.out.trans (by rw [h0,Bool.and_true]))
      clear h0 hB hr
      go_wp2
      go_ret
      exact ⟨by rw [hB2.out]; rfl,by trivial⟩
end Go.Proofs.YteefodibpjgicaaGreat
