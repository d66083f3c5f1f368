/- Texts joined: Utf, Shelf3, Dom1. -/
import Derived.BigCall
import Derived.Deep.QuietTactic
import Derived.BigQuiet
import Derived.Test.YteefodibpjgicaaGreatRows
import Derived.Shelf.Strings.Runes
import Derived.Shelf.Strings.IndexAny
import Derived.Shelf.Strings.AsciiSet
import Derived.Shelf.Strings.IndexAnyAll
import Derived.IntWalk
import Derived.Outline
import Derived.Test.YteefodibpjgicaaGreatA1
import Derived.Test.YteefodibpjgicaaGreatA2
import Derived.Test.YteefodibpjgicaaGreatA4
import Derived.Test.YteefodibpjgicaaGreatA6
import Derived.Test.YteefodibpjgicaaGreatA8
namespace Go.Proofs.YteefodibpjgicaaGreat
open Go.RowKit
theorem next_dec {P : Program} (w : World) (k : Nat) (s : ByteArray) (pos : Nat) (hk : w.heap[k]? = some (.stringIter s pos)) (h : pos < s.size) : ∀ ty,
    (Instr.next (.pointer (some ⟨k,0,none⟩)) true ty).run P w =
      .ok (.tuple #[.bool true,.int .i64 pos,.int .i32 (M1.dec (s.data.toList.drop pos)).1]) (w.iterAt k s (pos + (M1.dec (s.data.toList.drop pos)).2)):=fun ty => by
  rw [Lib.run_next_any_at w k s pos ty hk h,M1.decode_eq]
theorem drop_ne {l : List UInt8} {k : Nat} (h : k < l.length) : l.drop k ≠ []:=by
  intro e
  have:=congrArg List.length e
  simp at this
  omega
set_option maxHeartbeats 1000000 in
set_option maxRecDepth 100000 in
theorem utfRight (v : Value) (l : List UInt8) (w : World) (hs : Sl w v (u8s l)) (hl : l.length ≤ 1073741824) :
    Calls Tryz.prog 151 #[v] w fun e w' => e = .returned (.string ⟨(M1.right l).toArray⟩) ∧ Below w.heap.size w w':=by
  have hcv:=(hs.below ((Below.refl _ w).alloc (Nat.le_refl _) (.cells #[.pointer none,.slice none 0 0] 120))).toString 22 9 5 Tryz.underlying22 Tryz.underlying5 Tryz.underlying9
  go_enter Tryz.func151,Tryz.ntmps151
  go_wp2
  go_loopw [4] (fun q wr => ∃ (pos : Nat) (p : Bool) (acc : List UInt8),q = .bool p ∧ Lib.IsBuilderF 120 5 w.heap.size w.heap.size (u8s acc) wr ∧ wr.heap[w.heap.size + 1]? = some (.stringIter ⟨l.toArray⟩ pos) ∧ Below w.heap.size w wr ∧ M1.right l = acc ++ M1.text (M1.mk p (M1.runes (l.drop pos))) ∧ acc.length ≤ 4 * pos ∧ pos ≤ l.length) (fun _ wr => l.length - wr.iterPos (w.heap.size + 1))
  case atStart =>
    refine ⟨0,false,[],rfl,(Lib.IsBuilderF.of (Lib.fresh_isBuilder 120 5 w)).alloc _,?_,((Below.refl _ w).alloc (Nat.le_refl _) _).alloc (by simp) _,rfl,by simp,by simp⟩
    have:=World.iter_heap (w.alloc (.cells #[.pointer none,.slice none 0 0] 120)) ⟨l.toArray⟩ 0
    simpa using this
  case round =>
    obtain ⟨pos,p,acc,rfl,hI,hit,hbw,hacc0,hal,hpl⟩:=hrel
    have hsz : w.heap.size + 1 < wr.heap.size:=(Array.getElem?_eq_some_iff.1 hit).1
    have hacc:=Lib.hid hacc0
    clear hacc0 hcv
    by_cases hp : pos < l.length
    · have hne:=drop_ne hp
      have hnx:=next_dec (P:=Tryz.prog) wr (w.heap.size + 1) ⟨l.toArray⟩ pos hit hp
      have hst0:=M1.runes_step _ hne
      have hw1:=M1.dec_pos _ hne
      have hw2:=M1.dec_le _ hne
      have hlt:=M1.dec_lt (l.drop pos)
      rw [List.drop_drop] at hst0
      rw [List.length_drop] at hw2
      generalize (M1.dec (l.drop pos)).1 = r at *
      generalize (M1.dec (l.drop pos)).2 = wd at *
      have hst:=Lib.hid hst0
      clear hst0
      have hI1:=hI.iterAt hit (pos + wd)
      have hbw1:=Lib.below_iterAt hbw (Nat.le_succ _) ⟨l.toArray⟩ (pos + wd)
      have hit1:=Lib.iterAt_heap wr (w.heap.size + 1) ⟨l.toArray⟩ pos (pos + wd) hit
      have hsz1:=Lib.iterAt_size wr (w.heap.size + 1) ⟨l.toArray⟩ (pos + wd)
      rw [← hsz1] at hsz
      clear hsz1 hI hbw
      generalize wr.iterAt (w.heap.size + 1) ⟨l.toArray⟩ (pos + wd) = w1 at *
      have hWR:=fun (x : Int) (h1 : 0 ≤ x) (h2 : x < 1114112) => bWriteRune w.heap.size w.heap.size _ x (by omega) (by omega) _ hI1 (by rw [u8s_length]; omega) (by omega)
      have hWB:=fun (x : Int) => bWriteByte w.heap.size w.heap.size _ x _ hI1 (by rw [u8s_length]; omega) (by omega)
      have hx0 : (0 : Int) ≤ (r : Int):=by omega
      have hx1 : (r : Int) < 1114112:=by omega
      clear hlt
      generalize (r : Int) = x at *
      have fin : ∀ (x p q) (add : List UInt8),M1.right l = acc ++ M1.text (M1.mk p (x :: M1.runes (l.drop (pos + wd)))) → M1.text (if x = 13 then [10] else if x = 10 ∧ p = true then [] else if x = 0 then [65533] else [x]) = add → decide (x = 13) = q → M1.right l = (acc ++ add) ++ M1.text (M1.mk q (M1.runes (l.drop (pos + wd)))):=by
        intro x p q add h1 h2 h3
        rw [h1,M1.mk,M1.text_append,h2,h3,List.append_assoc]
      have hfin:=Lib.hid fin
      clear fin
      have hst:=Lib.hid (show M1.right l = acc ++ M1.text (M1.mk p (x :: M1.runes (l.drop (pos + wd)))) by rw [hacc.out,hst.out])
      clear hacc
      by_cases h13 : x = 13
      · subst h13
        go_wp2_with (go_at_call 123; refine (hWB 10).mono ?_; rintro e W1 ⟨rfl,h1,b1,k1⟩)
        go_wp2
        go_roundw
        case rel =>
          exact ⟨pos + wd,true,acc ++ [10],rfl,by rw [u8s_append]; exact Or.inr h1,k1.iter hit1 (by omega),hbw1.trans b1,hfin.out _ _ _ _ hst.out rfl rfl,by simp; omega,by omega⟩
        case measure => rw [iterPos_of (k1.iter hit1 (by omega)),iterPos_of hit]; omega
      have h13b : (x == 13) = false:=by simpa using h13
      by_cases h10 : x = 10
      · subst h10
        cases p
        · go_wp2_with (go_at_call 152; refine (hWR 10 (by omega) (by omega)).mono ?_; rintro e W1 ⟨rfl,h1,b1,k1⟩)
          go_wp2
          go_roundw
          case rel =>
            exact ⟨pos + wd,false,acc ++ [10],rfl,by rw [u8s_append]; exact Or.inr h1,k1.iter hit1 (by omega),hbw1.trans b1,hfin.out _ _ _ _ hst.out rfl rfl,by simp; omega,by omega⟩
          case measure => rw [iterPos_of (k1.iter hit1 (by omega)),iterPos_of hit]; omega
        · go_wp2
          go_roundw
          case rel =>
            exact ⟨pos + wd,false,acc,rfl,hI1,hit1,hbw1,by have:=hfin.out _ _ _ [] hst.out rfl rfl; rwa [List.append_nil] at this,by omega,by omega⟩
          case measure => rw [iterPos_of hit1,iterPos_of hit]; omega
      have h10b : (x == 10) = false:=by simpa using h10
      by_cases h0 : x = 0
      · subst h0
        go_wp2_with (go_at_call 152; refine (hWR 65533 (by omega) (by omega)).mono ?_; rintro e W1 ⟨rfl,h1,b1,k1⟩)
        go_wp2
        go_roundw
        case rel =>
          exact ⟨pos + wd,false,acc ++ [239,191,189],rfl,by rw [u8s_append]; exact Or.inr h1,k1.iter hit1 (by omega),hbw1.trans b1,hfin.out _ _ _ _ hst.out rfl rfl,by simp; omega,by omega⟩
        case measure => rw [iterPos_of (k1.iter hit1 (by omega)),iterPos_of hit]; omega
      have h0b : (x == 0) = false:=by simpa using h0
      go_wp2_with (go_at_call 152; refine (hWR x (by omega) (by omega)).mono ?_; rintro e W1 ⟨rfl,h1,b1,k1⟩)
      go_wp2
      go_roundw
      case rel =>
        have hl4:=(Lib.encodeRuneZ_length x).2
        have e : (Lib.encodeRune x).length = (Lib.encodeRuneZ x).length:=by simp [Lib.encodeRune]
        refine ⟨pos + wd,false,acc ++ Lib.encodeRune x,rfl,?_,k1.iter hit1 (by omega),hbw1.trans b1,hfin.out _ _ _ _ hst.out ?_ (by simp [h13]),by simp; omega,by omega⟩
        · rw [u8s_append,show u8s (Lib.encodeRune x) = Lib.runeCells x from Lib.byteCells_encodeRune x]; exact Or.inr h1
        · rw [if_neg h13,if_neg (fun h => h10 h.1),if_neg h0]; simp [M1.text]
      case measure => rw [iterPos_of (k1.iter hit1 (by omega)),iterPos_of hit]; omega
    · have hnx:=fun ty => Lib.run_next_end_at (P:=Tryz.prog) wr (w.heap.size + 1) ⟨l.toArray⟩ pos ty hit hp
      go_wp2_with (go_at_call 107; refine (bString w.heap.size w.heap.size _ _ hI (by have:=hbw.size; omega)).mono ?_; rintro e W1 ⟨rfl,_,b1,_⟩)
      go_wp2
      go_ret
      have h:=hacc.out
      rw [List.drop_of_length_le (by omega),M1.runes_nil] at h
      rw [h]
      exact ⟨by simp [M1.mk,M1.text],hbw.trans b1⟩
set_option maxHeartbeats 1000000 in
theorem utfSmall (c : UInt8) (w : World) :
    Calls Tryz.prog 120 #[.int .u8 (c.toNat : Int)] w fun e w' => e = .returned (.int .u8 ((M1.small c).toNat : Int)) ∧ w' = w:=by
  have h:=M1.small_nat c
  have hc:=c.toNat_lt
  generalize (M1.small c).toNat = m at *
  generalize c.toNat = n at *
  have hc : n < 256:=hc
  by_cases h0 : 65 ≤ n ∧ n ≤ 90
  · rw [if_pos h0] at h
    obtain ⟨h1,h2⟩:=h0
    subst h
    go_enter Tryz.func120,Tryz.ntmps120
    go_wp2
    go_ret
    refine ⟨?_,rfl⟩
    show Ending.returned (.int .u8 ((n : Int) - 65 + 97)) = _
    rw [show (n : Int) - 65 + 97 = ((n + 32 : Nat) : Int) by omega]
  · rw [if_neg h0] at h
    subst h
    go_enter Tryz.func120,Tryz.ntmps120
    go_wp2
    all_goals go_ret
    all_goals exact ⟨rfl,rfl⟩
def spelt3 (s : ByteArray) : Bool:=s.data.toList.take 3 == [239,191,189]
set_option maxHeartbeats 1000000 in
set_option maxRecDepth 100000 in
theorem utfSpelt (s : ByteArray) (w : World) :
    Calls Tryz.prog 95 #[.string s] w fun e w' => e = .returned (.bool (spelt3 s)) ∧ w' = w:=by
  go_enter Tryz.func95,Tryz.ntmps95
  go_wp2_with (go_at_call 104; refine (hasPrefix_any _ _ _).mono ?_; rintro e w1 ⟨rfl,rfl⟩)
  go_ret
  refine ⟨?_,rfl⟩
  rw [← Lib.hasPrefix_of_take]
  unfold spelt3
  by_cases h : s.data.toList.take 3 = [239,191,189]
  · have : 3 ≤ s.data.toList.length:=by have:=congrArg List.length h; rw [List.length_take] at this; simp at this; simp; omega
    simp [h]
    simpa using this
  · have : (s.data.toList.take 3 == [239,191,189]) = false:=by simpa using h
    simp [this]
set_option maxHeartbeats 1000000 in
set_option maxRecDepth 100000 in
theorem utfPrefix (s p : ByteArray) (w : World) (hs : s.size ≤ 9223372036854775807) (hp : p.size ≤ 9223372036854775807) :
    Calls Tryz.prog 191 #[.string s,.string p] w fun e w' => e = .returned (.bool (M1.prefixB s.data.toList p.data.toList)) ∧ Below w.heap.size w w':=by
  by_cases hlen : s.size < p.size
  · have h:=M1.prefixB_short s.data.toList p.data.toList hlen
    generalize M1.prefixB s.data.toList p.data.toList = q at *
    subst h
    go_enter Tryz.func191,Tryz.ntmps191
    go_wp2
    go_ret
    exact ⟨rfl,Below.refl _ _⟩
  · have hle : p.size ≤ s.size:=by omega
    clear hlen
    go_enter Tryz.func191,Tryz.ntmps191
    go_wp2
    go_loopw [13] (fun i wr => ∃ k : Nat,k ≤ p.size ∧ i = .int .i64 k ∧ Below w.heap.size w wr ∧ Hid (M1.fold (s.data.toList.take k) = p.data.toList.take k)) (fun i _ => p.size - (intOf i).toNat)
    case atStart => exact ⟨0,by omega,rfl,Below.refl _ _,by simp [Hid,M1.fold]⟩
    case round =>
      obtain ⟨k,hk,rfl,hbw,hF⟩:=hrel
      by_cases hlt : k < p.size
      · have hls : k < s.size:=by omega
        by_cases heq : M1.small s[k] = p[k]
        · have hb : (((M1.small s[k]).toNat : Int) != (p[k].toNat : Int)) = false:=by rw [heq]; simp
          go_wp2
          go_quiet ((go_at_call 120; exact Calls.quiet_of_same (utfSmall _ _)))
          go_wp2
          go_roundw
          case rel =>
            refine ⟨k + 1,by omega,by go_num,below_drewN hbw _,?_⟩
            show M1.fold _ = _
            have hF:=hF.out
            have e1 : s.data.toList.take (k + 1) = s.data.toList.take k ++ [s[k]]:=List.take_succ_eq_append_getElem (l:=s.data.toList) hls
            have e2 : p.data.toList.take (k + 1) = p.data.toList.take k ++ [p[k]]:=List.take_succ_eq_append_getElem (l:=p.data.toList) hlt
            rw [e1,e2,← hF,← heq]
            simp [M1.fold]
          case measure => simp [intOf]; omega
        · have h:=M1.prefixB_diff s.data.toList p.data.toList k hlt hls heq
          have hb : (((M1.small s[k]).toNat : Int) != (p[k].toNat : Int)) = true:=by
            rw [bne_iff_ne]; intro h; exact heq (UInt8.toNat_inj.1 (by omega))
          have h:=Lib.hid h
          clear heq
          go_wp2
          go_quiet ((go_at_call 120; exact Calls.quiet_of_same (utfSmall _ _)))
          go_wp2
          go_ret
          exact ⟨by rw [h.out]; rfl,below_drewN hbw _⟩
      · obtain rfl : k = p.size:=by omega
        have hF:=hF.out
        rw [List.take_of_length_le (l:=p.data.toList) (show p.data.toList.length ≤ p.size from Nat.le_refl _)] at hF
        have h:=M1.prefixB_yes s.data.toList p.data.toList hle hF
        have h:=Lib.hid h
        clear hF
        go_wp2
        go_ret
        exact ⟨by rw [h.out]; rfl,hbw⟩
set_option maxHeartbeats 1000000 in
set_option maxRecDepth 100000 in
theorem utfFold (s : ByteArray) (w : World) (hs : s.size ≤ 140737488355328) :
    Calls Tryz.prog 111 #[.string s] w fun e w' => e = .returned (.string ⟨(M1.fold s.data.toList).toArray⟩) ∧ Below w.heap.size w w':=by
  have hcv:=Lib.run_convert_string_bytes (P:=Tryz.prog) w 9 22 5 s Tryz.underlying9 Tryz.underlying22 Tryz.underlying5
  have hcap:=grownCap_ge w s.size 0 5
  have hcap2:=grownCap_le_maxLen w s.size 0 5 (by unfold maxLen; omega)
  unfold maxLen at hcap2
  have hM:=MutRow.bytes w 5 s
  have hB:=below_bytesWorld w 5 s
  have hz:=Lib.bytesWorld_size w 5 s
  generalize grownCap w s.size 0 5 = cap at *
  generalize Lib.bytesWorld w 5 s = w0 at *
  have hz:=Lib.hid hz
  go_enter Tryz.func111,Tryz.ntmps111
  go_wp2
  go_loopw [10] (fun i wr => ∃ k : Nat,k ≤ s.size ∧ i = .int .i64 k ∧ Below w.heap.size w wr ∧ MutRow wr w.heap.size (u8s (M1.foldTo s.data.toList k))) (fun i _ => s.size - (intOf i).toNat)
  case atStart => exact ⟨0,by omega,rfl,hB,by rw [M1.foldTo_zero]; exact hM⟩
  case round =>
    obtain ⟨k,hk,rfl,hbw,hR⟩:=hrel
    have hlen : (u8s (M1.foldTo s.data.toList k)).length ≤ s.size ∧ s.size ≤ (u8s (M1.foldTo s.data.toList k)).length:=by
      have : s.data.toList.length = s.size:=rfl
      rw [u8s_length,M1.foldTo_length]
      omega
    by_cases hlt : k < s.size
    · have hls : k < s.data.toList.length:=hlt
      obtain ⟨hc,hf⟩:=hR.at (u8s_get _ _ _ (M1.foldTo_get _ k hls))
      have hset:=hR.set (k:=k) (by omega) (.int .u8 ((M1.small s.data.toList[k]).toNat : Int))
      rw [u8s_set,M1.foldTo_set _ k hls] at hset
      clear hR hlen
      generalize s.data.toList[k] = c at *
      go_wp2_with (go_at_call 120; refine (utfSmall _ _).mono ?_; rintro e w1 ⟨rfl,rfl⟩)
      go_roundw
      case rel => exact ⟨k + 1,by omega,by go_num,hbw.setCell (Nat.le_refl _) _,hset⟩
      case measure => simp [intOf]; omega
    · obtain rfl : k = s.size:=by omega
      rw [M1.foldTo_all _ _ (show s.data.toList.length ≤ s.size from Nat.le_refl _)] at hR
      have hfl : (u8s (M1.fold s.data.toList)).length = s.size:=by rw [u8s_length]; simp [M1.fold]
      have hsl:=hR.sl (cap:=cap) (by omega) hcap2
      rw [hfl] at hsl
      have hcv2:=hsl.toString 22 9 5 Tryz.underlying22 Tryz.underlying5 Tryz.underlying9
      clear hfl
      go_wp2
      go_ret
      exact ⟨rfl,hbw⟩
set_option maxHeartbeats 1000000 in
set_option maxRecDepth 100000 in
theorem utfIs (s : ByteArray) (w : World) (hs : s.size ≤ 9223372036854775807) :
    Calls Tryz.prog 77 #[.string s] w fun e w' => e = .returned (.bool (M1.isB s.data.toList)) ∧ Below w.heap.size w w':=by
  go_enter Tryz.func77,Tryz.ntmps77
  go_wp2
  go_loopw [] (fun wr => ∃ pos : Nat,pos ≤ s.size ∧ wr.heap[w.heap.size]? = some (.stringIter s pos) ∧ Below w.heap.size w wr ∧ Hid (M1.isB s.data.toList = M1.isB (s.data.toList.drop pos))) (fun wr => s.size - wr.iterPos w.heap.size)
  case atStart => exact ⟨0,by omega,World.iter_heap w s 0,(Below.refl _ w).alloc (Nat.le_refl _) _,rfl⟩
  case round =>
    obtain ⟨pos,hpl,hit,hbw,hB⟩:=hrel
    have hsz : w.heap.size < wr.heap.size:=(Array.getElem?_eq_some_iff.1 hit).1
    by_cases hp : pos < s.size
    · have hp' : pos < s.data.toList.length:=hp
      have hne:=drop_ne hp'
      have hnx:=next_dec (P:=Tryz.prog) wr w.heap.size s pos hit hp
      have hst0:=M1.isB_step _ hne
      have hw1:=M1.dec_pos _ hne
      have hw2:=M1.dec_le _ hne
      have hlt:=M1.dec_lt (s.data.toList.drop pos)
      rw [List.drop_drop] at hst0
      rw [List.length_drop,show s.data.toList.length = s.size from rfl] at hw2
      rw [← hB.out] at hst0
      generalize (M1.dec (s.data.toList.drop pos)).1 = r at *
      generalize (M1.dec (s.data.toList.drop pos)).2 = wd at *
      have hbw1:=Lib.below_iterAt hbw (Nat.le_refl _) s (pos + wd)
      have hit1:=Lib.iterAt_heap wr w.heap.size s pos (pos + wd) hit
      generalize wr.iterAt w.heap.size s (pos + wd) = w1 at *
      have hst:=Lib.hid hst0
      clear hst0 hne hB
      by_cases h0 : r = 0
      · subst h0
        go_wp2
        go_ret
        exact ⟨by rw [hst.out]; rfl,hbw1⟩
      by_cases h13 : r = 13
      · subst h13
        go_wp2
        go_ret
        exact ⟨by rw [hst.out]; rfl,hbw1⟩
      have h0b : ((r : Int) == 0) = false:=by simpa using h0
      have h13b : ((r : Int) == 13) = false:=by simp; omega
      by_cases hf : r = 65533
      · subst hf
        have hq : ∃ q,spelt3 (s.extract pos s.size) = q ∧ Hid (M1.isB s.data.toList = (q && M1.isB (s.data.toList.drop (pos + wd)))):=by
          refine ⟨_,rfl,?_⟩
          show _ = _
          rw [hst.out,spelt3,extract_end]
          simp
        obtain ⟨q,hq1,hq2⟩:=hq
        cases q
        · go_wp2_with (go_at_call 95; refine (utfSpelt _ _).mono ?_; rintro e w2 ⟨rfl,rfl⟩)
          go_ret
          exact ⟨by rw [hq2.out]; rfl,hbw1⟩
        · go_wp2_with (go_at_call 95; refine (utfSpelt _ _).mono ?_; rintro e w2 ⟨rfl,rfl⟩)
          go_roundw
          case rel => exact ⟨pos + wd,by omega,hit1,hbw1,hq2⟩
          case measure => rw [iterPos_of hit1,iterPos_of hit]; omega
      · have hfb : ((r : Int) == 65533) = false:=by simp; omega
        have hB : Hid (M1.isB s.data.toList = M1.isB (s.data.toList.drop (pos + wd))):=by
          show _ = _
          rw [hst.out]; simp [h0,h13,hf]
        go_wp2
        go_roundw
        case rel => exact ⟨pos + wd,by omega,hit1,hbw1,hB⟩
        case measure => rw [iterPos_of hit1,iterPos_of hit]; omega
    · have hnx:=fun ty => Lib.run_next_end_at (P:=Tryz.prog) wr w.heap.size s pos ty hit hp
      go_wp2
      go_ret
      have h:=hB.out
      rw [List.drop_of_length_le (show s.data.toList.length ≤ pos from by have : s.data.toList.length = s.size:=rfl; omega),M1.isB_nil] at h
      exact ⟨by rw [h]; rfl,hbw⟩
end Go.Proofs.YteefodibpjgicaaGreat

namespace Go.Proofs.YteefodibpjgicaaGreat
open Go.Shelf
def Tryz.lays152_ren : Go.Shelf.Ren:=⟨fun | 152 => 124 | 137 => 128 | 119 => 129 | 224 => 130 | 225 => 131 | 217 => 132 | 266 => 133 | n => n,fun | 9 => 9 | 21 => 21 | 3 => 3 | 4 => 4 | 5 => 5 | 0 => 0 | 46 => 143 | n => n,fun | n => n⟩
theorem Tryz.lays152 : Go.Proofs.Lays.n152 Tryz.prog Tryz.lays152_ren:={
  mixed:=by kernel_rfl
  f119:=Tryz.func129.trans (congrArg some (by kernel_rfl))
  f137:=Tryz.func128.trans (congrArg some (by kernel_rfl))
  f152:=Tryz.func124.trans (congrArg some (by kernel_rfl))
  f217:=Tryz.func132.trans (congrArg some (by kernel_rfl))
  f224:=Tryz.func130.trans (congrArg some (by kernel_rfl))
  f225:=Tryz.func131.trans (congrArg some (by kernel_rfl))
  f266:=Tryz.func133.trans (congrArg some (by kernel_rfl))
  t0:=Tryz.underlying0
  a0:=Tryz.isAgg0
  z0:=Tryz.sizeOf0
  v0:=Tryz.zeroValue0
  t3:=Tryz.underlying3
  a3:=Tryz.isAgg3
  z3:=Tryz.sizeOf3
  v3:=Tryz.zeroValue3
  t4:=Tryz.underlying4
  a4:=Tryz.isAgg4
  z4:=Tryz.sizeOf4
  v4:=Tryz.zeroValue4
  t5:=Tryz.underlying5
  a5:=Tryz.isAgg5
  z5:=Tryz.sizeOf5
  v5:=Tryz.zeroValue5
  t9:=Tryz.underlying9
  a9:=Tryz.isAgg9
  z9:=Tryz.sizeOf9
  v9:=Tryz.zeroValue9
  t21:=Tryz.underlying21
  a21:=Tryz.isAgg21
  z21:=Tryz.sizeOf21
  v21:=Tryz.zeroValue21
  t46:=Tryz.underlying143
  a46:=Tryz.isAgg143
  z46:=Tryz.sizeOf143
  v46:=Tryz.zeroValue143 }
open Go.RowKit Go.Lib in
theorem Tryz.strings_IndexRune_ascii (s : ByteArray) (r : Int) (w : World) (h0 : 0 ≤ r) (h1 : r < 128) :
    Calls Tryz.prog 124 #[.string s,.int .i32 r] w fun e w' => e = .returned (.int .i64 (Lib.indexByte s.data.toList r.toNat.toUInt8)) ∧ w' = w:=Any.strings_IndexRune_ascii Tryz.lays152 s r w h0 h1
def Tryz.lays153_ren : Go.Shelf.Ren:=⟨fun | 153 => 121 | 152 => 124 | 226 => 125 | 227 => 126 | 228 => 127 | 137 => 128 | 119 => 129 | 224 => 130 | 225 => 131 | 217 => 132 | 266 => 133 | n => n,fun | 9 => 9 | 3 => 3 | 4 => 4 | 5 => 5 | 21 => 21 | 117 => 138 | 116 => 137 | 0 => 0 | 46 => 143 | 124 => 144 | n => n,fun | n => n⟩
theorem Tryz.lays153 : Go.Proofs.Lays.n153 Tryz.prog Tryz.lays153_ren:={
  mixed:=by kernel_rfl
  f119:=Tryz.func129.trans (congrArg some (by kernel_rfl))
  f137:=Tryz.func128.trans (congrArg some (by kernel_rfl))
  f152:=Tryz.func124.trans (congrArg some (by kernel_rfl))
  f153:=Tryz.func121.trans (congrArg some (by kernel_rfl))
  f217:=Tryz.func132.trans (congrArg some (by kernel_rfl))
  f224:=Tryz.func130.trans (congrArg some (by kernel_rfl))
  f225:=Tryz.func131.trans (congrArg some (by kernel_rfl))
  f226:=Tryz.func125.trans (congrArg some (by kernel_rfl))
  f227:=Tryz.func126.trans (congrArg some (by kernel_rfl))
  f228:=Tryz.func127.trans (congrArg some (by kernel_rfl))
  f266:=Tryz.func133.trans (congrArg some (by kernel_rfl))
  t0:=Tryz.underlying0
  a0:=Tryz.isAgg0
  z0:=Tryz.sizeOf0
  v0:=Tryz.zeroValue0
  t3:=Tryz.underlying3
  a3:=Tryz.isAgg3
  z3:=Tryz.sizeOf3
  v3:=Tryz.zeroValue3
  t4:=Tryz.underlying4
  a4:=Tryz.isAgg4
  z4:=Tryz.sizeOf4
  v4:=Tryz.zeroValue4
  t5:=Tryz.underlying5
  a5:=Tryz.isAgg5
  z5:=Tryz.sizeOf5
  v5:=Tryz.zeroValue5
  t9:=Tryz.underlying9
  a9:=Tryz.isAgg9
  z9:=Tryz.sizeOf9
  v9:=Tryz.zeroValue9
  t21:=Tryz.underlying21
  a21:=Tryz.isAgg21
  z21:=Tryz.sizeOf21
  v21:=Tryz.zeroValue21
  t46:=Tryz.underlying143
  a46:=Tryz.isAgg143
  z46:=Tryz.sizeOf143
  v46:=Tryz.zeroValue143
  t116:=Tryz.underlying137
  a116:=Tryz.isAgg137
  z116:=Tryz.sizeOf137
  t117:=Tryz.underlying138
  a117:=Tryz.isAgg138
  z117:=Tryz.sizeOf138
  v117:=Tryz.zeroValue138
  t124:=Tryz.underlying144
  a124:=Tryz.isAgg144
  z124:=Tryz.sizeOf144
  v124:=Tryz.zeroValue144 }
open Go.RowKit Go.Lib in
theorem Tryz.strings_IndexAny_long (hv116 : ∀ w,(zeroValue 137).run Tryz.prog w = .ok (.agg (Array.replicate 256 (.bool false))) w) (s chars : ByteArray) (w : World) (h2 : 2 ≤ chars.size) (h8 : 8 < s.size) (hs : s.size < 4294967281) (hcs : chars.size < 4294967281) (hascii : ∀ (j : Nat) b,chars.data.toList[j]? = some b → b.toNat < 128) :
    Calls Tryz.prog 121 #[.string s,.string chars] w fun e w' => e = .returned (.int .i64 (Lib.indexAny s.data.toList chars.data.toList)) ∧ w' = ((w.alloc (.cells (Lib.setCells chars.data.toList) 137)).alloc (.cells (Lib.setCells chars.data.toList) 137)):=Any.strings_IndexAny_long Tryz.lays153 hv116 (by kernel_rfl) s chars w h2 h8 hs hcs hascii
end Go.Proofs.YteefodibpjgicaaGreat

namespace Go.Proofs.YteefodibpjgicaaGreat
open Go.RowKit
set_option maxHeartbeats 1000000 in
theorem domVoid (s : ByteArray) (w : World) : Calls Tryz.prog 116 #[.string s] w fun e w' => e = .returned (.bool (M3.voidB s.data.toList)) ∧ w' = w:=by
  rw [← Lib.toList_data]
  go_enter Tryz.func116,Tryz.ntmps116
  go_wp2
  all_goals (go_ret; refine ⟨?_,rfl⟩; unfold M3.voidB; simp_all)
set_option maxHeartbeats 1000000 in
theorem ref03Void (s : ByteArray) (w : World) : Calls Tryz.prog 62 #[.string s] w fun e w' => e = .returned (.bool (M3.voidB s.data.toList)) ∧ w' = w:=by
  rw [← Lib.toList_data]
  go_enter Tryz.func62,Tryz.ntmps62
  go_wp2
  all_goals (go_ret; refine ⟨?_,rfl⟩; unfold M3.voidB; simp_all)
set_option maxHeartbeats 1000000 in
theorem domRaw (s : ByteArray) (w : World) : Calls Tryz.prog 117 #[.string s] w fun e w' => e = .returned (.bool (M3.rawB s.data.toList)) ∧ w' = w:=by
  rw [← Lib.toList_data]
  go_enter Tryz.func117,Tryz.ntmps117
  go_wp2
  all_goals (go_ret; refine ⟨?_,rfl⟩; unfold M3.rawB; simp_all)
set_option maxHeartbeats 1000000 in
theorem ref03Raw (s : ByteArray) (w : World) : Calls Tryz.prog 64 #[.string s] w fun e w' => e = .returned (.bool (M3.rawB s.data.toList)) ∧ w' = w:=by
  rw [← Lib.toList_data]
  go_enter Tryz.func64,Tryz.ntmps64
  go_wp2
  all_goals (go_ret; refine ⟨?_,rfl⟩; unfold M3.rawB; simp_all)
set_option maxHeartbeats 1000000 in
theorem ref03Small (c : UInt8) (w : World) : Calls Tryz.prog 92 #[.int .u8 (c.toNat : Int)] w fun e w' => e = .returned (.bool (M3.smallB c)) ∧ w' = w:=by
  by_cases h1 : 97 ≤ c.toNat
  · go_enter Tryz.func92,Tryz.ntmps92
    go_wp2
    go_ret
    exact ⟨by simp [M3.smallB,h1]; omega,rfl⟩
  · go_enter Tryz.func92,Tryz.ntmps92
    go_wp2
    all_goals (go_ret; exact ⟨by simp [M3.smallB,h1],rfl⟩)
set_option maxHeartbeats 4000000 in
set_option maxRecDepth 100000 in
theorem domNamed (s : ByteArray) (w : World) (hs : s.size ≤ 9223372036854775807) :
    Calls Tryz.prog 93 #[.string s] w fun e w' => e = .returned (.bool (M3.namedB s.data.toList)) ∧ Below w.heap.size w w':=by
  have hsz : s.size = s.data.toList.length:=rfl
  have hemp : s.toList = s.data.toList:=Lib.toList_data s
  generalize hl : s.data.toList = l at *
  go_enter Tryz.func93,Tryz.ntmps93
  go_wp2
  go_loopw [] (fun wr => ∃ p : Nat,p ≤ l.length ∧ wr.heap[w.heap.size]? = some (.stringIter s p) ∧ Below w.heap.size w wr ∧ Hid (M3.namedB l = M3.tailB l p)) (fun wr => l.length - wr.iterPos w.heap.size)
  case atStart => exact ⟨0,by omega,World.iter_heap w s 0,(Below.refl _ w).alloc (Nat.le_refl _) _,rfl⟩
  case round =>
    obtain ⟨p,hpl,hit,hbw,hB⟩:=hrel
    have hsz0 : w.heap.size < wr.heap.size:=(Array.getElem?_eq_some_iff.1 hit).1
    by_cases hp : p < l.length
    · have hdr : l.drop p = l[p] :: l.drop (p + 1):=List.drop_eq_getElem_cons hp
      have hnx:=next_dec (P:=Tryz.prog) wr w.heap.size s p hit (by omega)
      rw [hl,hdr] at hnx
      have hlo:=M2.dec_lo l[p] (l.drop (p + 1))
      have hhi:=M2.dec_hi l[p] (l.drop (p + 1))
      have hlt:=M1.dec_lt (l[p] :: l.drop (p + 1))
      have hno:=Lib.hid (M3.tail_no hp)
      have hyes:=Lib.hid (M3.tail_yes hp)
      generalize l[p] = c at *
      generalize M1.dec (c :: l.drop (p + 1)) = rw_ at *
      obtain ⟨r,wd⟩:=rw_
      simp only at hnx hhi hlt
      have hbw1:=Lib.below_iterAt hbw (Nat.le_refl _) s (p + wd)
      have hit1:=Lib.iterAt_heap wr w.heap.size s p (p + wd) hit
      generalize wr.iterAt w.heap.size s (p + wd) = w1 at *
      clear hdr
      rcases Nat.lt_or_ge c.toNat 128 with h1 | h1
      · have hrw:=hlo h1
        simp only [Prod.mk.injEq] at hrw
        obtain ⟨rfl,rfl⟩:=hrw
        clear hlo hhi
        by_cases hok : M3.okR p (c.toNat : Int)
        · replace hyes:=Lib.hid (hB.out.trans (hyes.out hok))
          clear hno hB
          have hok':=hok
          unfold M3.okR at hok'
          clear hok
          generalize c.toNat = r at *
          rcases hok' with ⟨h2,h3⟩ | ⟨h2,h3 | ⟨h3,h4⟩⟩
          · go_wp2
            go_roundw
            case rel => exact ⟨p + 1,by omega,hit1,hbw1,hyes⟩
            case measure => rw [iterPos_of hit1,iterPos_of hit]; omega
          · have h5 : ((p : Int) == 0) = false:=by simpa using h2
            obtain rfl : r = 45:=by omega
            go_wp2
            go_roundw
            case rel => exact ⟨p + 1,by omega,hit1,hbw1,hyes⟩
            case measure => rw [iterPos_of hit1,iterPos_of hit]; omega
          · have h5 : ((p : Int) == 0) = false:=by simpa using h2
            go_wp2
            go_roundw
            case rel => exact ⟨p + 1,by omega,hit1,hbw1,hyes⟩
            case measure => rw [iterPos_of hit1,iterPos_of hit]; omega
        · replace hno:=Lib.hid (hB.out.trans (hno.out hok))
          clear hyes hB
          by_cases h2 : p = 0
          · subst h2
            have hok' : (c.toNat : Int) < 97 ∨ 122 < (c.toNat : Int):=by unfold M3.okR at hok; omega
            clear hok
            generalize c.toNat = r at *
            rcases hok' with h3 | h3
            · go_wp2
              go_ret
              exact ⟨by rw [hno.out]; rfl,hbw1⟩
            · have hd : decide ((r : Int) ≤ 122) = false:=decide_eq_false (by omega)
              go_wp2
              go_ret
              exact ⟨by rw [hno.out]; rfl,hbw1⟩
          · have h5 : ((p : Int) == 0) = false:=by simpa using h2
            have hok' : (c.toNat : Int) < 45 ∨ (45 < (c.toNat : Int) ∧ (c.toNat : Int) < 48) ∨ (57 < (c.toNat : Int) ∧ (c.toNat : Int) < 97) ∨ 122 < (c.toNat : Int):=by unfold M3.okR at hok; omega
            have h6 : ((c.toNat : Int) == 45) = false:=by unfold M3.okR at hok; simp; omega
            clear hok h2
            generalize c.toNat = r at *
            rcases hok' with h3 | ⟨h3,h4⟩ | ⟨h3,h4⟩ | h3
            · go_wp2
              go_ret
              exact ⟨by rw [hno.out]; rfl,hbw1⟩
            · go_wp2
              go_ret
              exact ⟨by rw [hno.out]; rfl,hbw1⟩
            · go_wp2
              go_ret
              exact ⟨by rw [hno.out]; rfl,hbw1⟩
            · have hd : decide ((r : Int) ≤ 122) = false:=decide_eq_false (by omega)
              have hd2 : decide ((r : Int) < 48) = false:=decide_eq_false (by omega)
              have hd3 : decide (57 < (r : Int)) = true:=decide_eq_true (by omega)
              go_wp2
              go_ret
              exact ⟨by rw [hno.out]; rfl,hbw1⟩
      · replace hno:=Lib.hid (hB.out.trans (hno.out (by unfold M3.okR; omega)))
        replace hhi:=hhi h1
        clear hyes hB hlo h1
        have hd : decide ((r : Int) ≤ 122) = false:=decide_eq_false (by omega)
        have hd2 : decide ((r : Int) < 48) = false:=decide_eq_false (by omega)
        have hd3 : decide (57 < (r : Int)) = true:=decide_eq_true (by omega)
        by_cases h2 : p = 0
        · subst h2
          go_wp2
          go_ret
          exact ⟨by rw [hno.out]; rfl,hbw1⟩
        · have h5 : ((p : Int) == 0) = false:=by simpa using h2
          have h6 : ((r : Int) == 45) = false:=by simp; omega
          clear h2
          go_wp2
          go_ret
          exact ⟨by rw [hno.out]; rfl,hbw1⟩
    · have hnx:=fun ty => Lib.run_next_end_at (P:=Tryz.prog) wr w.heap.size s p ty hit (by omega)
      have hpe : p = l.length:=by omega
      subst hpe
      replace hB:=Lib.hid (hB.out.trans M3.tail_end)
      cases l with
      | nil =>
        go_wp2
        go_ret
        exact ⟨by rw [hB.out]; rfl,hbw⟩
      | cons c r =>
        go_wp2
        go_ret
        exact ⟨by rw [hB.out]; rfl,hbw⟩
end Go.Proofs.YteefodibpjgicaaGreat
